import PyProof.Rows.All
import HandS.SortInts
import HandS.SetFor
import HandS.Strs
import PyProof.TupleOfSeq
import Wide.All
import OpenK.AllK
import Wide.FinOn
import HandS.ForMost
import HandS.Exc
import HandS.IsInst
import HandS.Zip
import HandS.TupAny
import HandS.TupMul
import HandS.Flow
import HandS.ExcValue
import HandS.Defaults
import HandS.Ends
import KE.KExcInit
import KE.KExcIs
import KE.KTryMore
import HandS.Conv
import HandS.HeadHook1
import HandS.Style
import HandS.Deep
import PyProof.ReprRoads
import PyProof.CallFns
import KE.GoesMore
import KE.GoesEnum
import HandS.Walk
import HandS.NoneIn
import HandS.More
import HandS.WordsExc
import HandS.ExcOwn
import HandS.DictComp
import KE.DataMinMax
import KE.DatumOrd
import PyProof.MaxThree
import HandS.SortKw
import HandS.Comp
import HandS.Head0
import HandS.Head1
import HandS.Head2
import HandS.HeadEnd
import HandS.HeadHook2
import PySem.Challenge.RW_enoughcame_k36_known_reports
section
set_option Elab.async false
set_option linter.all false
set_option maxRecDepth 100000
set_option maxHeartbeats 4000000
/-! sorted of a tuple of ints; sorted and len of the set of a tuple of ints -/
namespace IvSrt
open PySem PySem.Spec PyProof.Rows L2 SrtO
section
variable {prog : Program} {w : World} {A : Around} {E : Value → Shared → Prop} {s : Shared}
theorem sorted_tup {l : Addr} {vs : List Value} {ns : List Int} {Q : Value → Shared → Prop} (hl : s.heap.IsTuple l vs.toArray) (hI : IntsAre vs ns) (hz : vs.length ≤ sizeLine)
    (h : ∀ (h' g : Heap) (p : Addr) (out : List Value) (ns' : List Int) (e : Nat), (∀ b o, s.heap.get? b = some o → h'.get? b = some o) → (∀ b o, h'.get? b = some o → g.get? b = some o) → h'.objs.size ≤ p → g.get? p = some (seqObj "list" out.toArray e) → IntsAre out ns' → ns'.Perm ns → ns'.Pairwise (· ≤ ·) → Q (.ref p) { s with heap := g }) :
    wpAny (model prog w) A (call (.builtin "sorted") [.ref l]) Q E s := by
  refine Calls.call_function_entry kind_sorted plain_sorted entry_sorted (args_sorted1 _) ?_
  unfold Builtin.«sorted»
  refine wpAny_bind (m := checkCount "sorted" 1 1 _) (wpAny_pure ?_)
  obtain ⟨o, ho, hc, n, hd⟩ := hl
  refine wpAny_bind (wpAny_collect_seq l (T := "tuple") (.inr rfl) ho hc hd (fun h' hk => ?_) (by simpa using hz))
  have ev : vs.toArray.toList = vs := by simp
  rw [ev]
  refine wpAny_bind (wpAny_newList ?_ hz)
  have hoL : (h'.push (seqObj "list" vs.toArray 0)).get? h'.objs.size = some (seqObj "list" vs.toArray 0) := Heap.get?_push_size _ rfl
  show wpAny _ _ _ _ _ { s with heap := h'.push (seqObj "list" vs.toArray 0) }
  refine wpAny_bind (wpAny_holding (wpAny_call_entry slot_list_sort ⟨_, hoL, rfl⟩ entry_list_sort (list_sort_ord swo_int hoL hz (fun h2 => ints_sortable hI h2) fun out hs hb => ⟨_, rfl, ?_⟩) (args_list_sort _)))
  obtain ⟨k1, k2, k3⟩ := ints_out hI hs hb
  obtain ⟨e, he⟩ := sortedHeap_at (out := out.toArray) (n := 0) hoL
  refine wpAny_pure ⟨_, rfl, h h' _ _ out _ e hk (fun b o q => ?_) (Nat.le_refl _) he k1 k2 k3⟩
  have hlt : b < h'.objs.size := Heap.lt_size q
  rw [sortedHeap_old (Nat.ne_of_lt hlt) (by rw [size_push']; exact Nat.lt_succ_of_lt hlt), Heap.get?_push_ne _ _ _ (Nat.ne_of_lt hlt)]
  exact q
end
section
variable {X : Cx}
def rSortedTI (K : PySem.W.Frag) : List V → Hp → VK → Prop := fun vs H Q => ∃ (a : Addr) (ns : List Int), vs = [V.ref a] ∧ SqT K H a (ns.map V.int) ∧
  ∀ (ns' : List Int) (p : Addr), ns'.Perm ns → ns'.Pairwise (· ≤ ·) → H p = none → Q (.ref p) (upd H p (.lst (ns'.map V.int)))
theorem cr_sortedTI : CallR X (.builtin "sorted") (rSortedTI X.K) := by
  intro pins s σ H vs us Q I r h
  obtain ⟨a, ns, rfl, hs, q⟩ := h
  obtain ⟨its, rv, hl, hz⟩ := I.tuple hs
  rw [Vals.ref1 r]
  have hi := rv.ints
  refine sorted_tup hl hi (by rw [← rv.length]; exact hz) fun h' g p out ns' e hk hk2 hp hg hi' hpm hpw => ?_
  have I' : Inv X pins σ H { s with heap := h' } := I.kept (t' := s.toks) hk
  have hlen : (ns'.map V.int).length ≤ sizeLine := by
    rw [List.length_map, hpm.length_eq]
    rw [List.length_map] at hz
    exact hz
  exact ⟨.ref p, upd H p (.lst (ns'.map V.int)), I'.laid (t' := s.toks) hk2 hp ⟨hlen, out, e, vals_of_ints hi', hg⟩, rfl, q _ _ hpm hpw (I'.hok.fresh hp)⟩
def tSSet (K : PySem.W.Frag) (ta : TE) : TE := fun σ H Q => ta σ H fun x H1 => ∃ (l : Addr) (ns : List Int), x = V.ref l ∧ SqT K H1 l (ns.map V.int) ∧ ns.length < 64 ∧
  ∀ (out : List Int) (p : Addr), out.Pairwise (· < ·) → (∀ k, k ∈ out ↔ k ∈ ns) → H1 p = none → Q (.ref p) (upd H1 p (.lst (out.map V.int)))
theorem pe_sset {a : Expr} {ta : TE} {p p2 q pos : Pos} (hc : X.calm = true) (hg : Gl X "sorted") (hm : X.mg "sorted" = none) (hb : bootBuiltins "sorted" = some (.builtin "sorted")) (hg2 : Gl X "set") (hm2 : X.mg "set" = none) (ha : PE X a ta)
    (na : starEach [a] X.env = (false, eval a X.env) :: starEach [] X.env := by rfl) : PE X (.Call (.Name "sorted" p) [.Call (.Name "set" p2) [a] [] q] [] pos) (tSSet X.K ta) := by
  refine ⟨fun pins s σ H Q I h => ?_⟩
  refine Call_ (ld_blt I hg hm hb ?_)
  refine PyProof.Rows.callWith_builtin1 (PyProof.Rows.args_cons ?_ rfl) rfl rfl
  refine Call_ (ld_blt I hg2 hm2 PyProof.Rows.boot_set ?_)
  refine PyProof.Rows.callWith_type1 (PyProof.Rows.args_cons (thn (ha.run pins s σ H _ I h) fun v s1 ⟨x, H1, I1, r1, q1⟩ => PyProof.Rows.args_nil ?_) na) na rfl
  obtain ⟨l, ns, rfl, hq, h1, q1⟩ := q1
  cases r1
  obtain ⟨its, r, pt, hz⟩ := I1.tuple hq
  refine call_set_tupI ns (I1.ok.hd hc) pt (by simpa using r.ints) (by unfold scanBound; omega) fun h' tk cN hS hcN hk => ?_
  refine PyProof.Rows.args_nil ?_
  have I2 : Inv X pins σ H1 { s1 with heap := h', toks := tk } := I1.kept (t' := tk) hk
  refine sorted_set hS (I1.ok.hd hc) (by omega) fun s' p out c ns' k g o hp hg hi hs hm hl => ?_
  have hlen : (ns'.map V.int).length ≤ sizeLine := by rw [List.length_map, hl, sizeLine_eq]; omega
  have hn : H1 p = none := I2.hok.fresh hp
  have J : Inv X pins σ (upd H1 p (.lst (ns'.map V.int))) { { s1 with heap := h', toks := tk } with heap := s'.heap, gens := s'.gens, drawn := s'.drawn, toks := s'.toks } :=
    I2.call (ch := []) (Un.laid k hp hn) (I2.hok.laid k hp ⟨hlen, out.toList, c, vals_of_ints hi, hg⟩) (by rw [g]; exact I2.bare) (fun _ z => nomatch z)
  have e : s' = { { s1 with heap := h', toks := tk } with heap := s'.heap, gens := s'.gens, drawn := s'.drawn, toks := s'.toks } := by
    cases s'
    cases s1
    cases o
    rfl
  rw [e]
  exact ⟨.ref p, _, J, rfl, q1 ns' p hs (fun k => by rw [hm]; simp) hn⟩
def tLSet (K : PySem.W.Frag) (ta : TE) : TE := fun σ H Q => ta σ H fun x H1 => ∃ (l : Addr) (ns : List Int), x = V.ref l ∧ SqT K H1 l (ns.map V.int) ∧ ns.length < 64 ∧
  ∀ (out : List Int), out.Nodup → (∀ k, k ∈ out ↔ k ∈ ns) → Q (.int (out.length : Nat)) H1
theorem pe_lset {a : Expr} {ta : TE} {p p2 q pos : Pos} (hc : X.calm = true) (hg : Gl X "len") (hm : X.mg "len" = none) (hg2 : Gl X "set") (hm2 : X.mg "set" = none) (ha : PE X a ta)
    (na : starEach [a] X.env = (false, eval a X.env) :: starEach [] X.env := by rfl) : PE X (.Call (.Name "len" p) [.Call (.Name "set" p2) [a] [] q] [] pos) (tLSet X.K ta) := by
  refine ⟨fun pins s σ H Q I h => ?_⟩
  refine Call_ (ld_blt I hg hm PySem.boot_len ?_)
  refine PyProof.Rows.callWith_builtin1 (PyProof.Rows.args_cons ?_ rfl) rfl rfl
  refine Call_ (ld_blt I hg2 hm2 PyProof.Rows.boot_set ?_)
  refine PyProof.Rows.callWith_type1 (PyProof.Rows.args_cons (thn (ha.run pins s σ H _ I h) fun v s1 ⟨x, H1, I1, r1, q1⟩ => PyProof.Rows.args_nil ?_) na) na rfl
  obtain ⟨l, ns, rfl, hq, h1, q1⟩ := q1
  cases r1
  obtain ⟨its, r, pt, hz⟩ := I1.tuple hq
  refine call_set_tupI ns (I1.ok.hd hc) pt (by simpa using r.ints) (by unfold scanBound; omega) fun h' tk cN hS hcN hk => ?_
  refine PyProof.Rows.args_nil ?_
  have I2 : Inv X pins σ H1 { s1 with heap := h', toks := tk } := I1.kept (t' := tk) hk
  obtain ⟨o, es, ep, t, ho, hex, hd, g, nd, hmm, hb, hf, hn, hr, hl⟩ := hS
  have hlen : (es.toList.map keyOf).length = es.size := by rw [List.length_map, Array.length_toList]
  have q2 := q1 (es.toList.map keyOf) nd fun k => by rw [← hmm k]; simp
  rw [hlen] at q2
  exact call_len_set ho hex hd hf (by have : es.size < 64 := by omega
                                      omega) ⟨.int (es.size : Nat), H1, I2.tok _, ⟨_, rfl⟩, q2⟩
end
end IvSrt
end

section
set_option Elab.async false
set_option linter.all false
set_option maxRecDepth 100000
set_option maxHeartbeats 2000000
/-! The data layer: programs over plain data (None, truth values, numbers, texts, lists, tuples), run by a function of plain Lean. -/
namespace Iv
open PySem L2

/-! ### the language -/
inductive Op | add | sub | mul | fdiv | mod | pow
inductive Cm | eq | ne | lt | le | gt | ge | is_ | isnot | in_ | notin
inductive Ty | int | bool | str | list | tuple
inductive B1 | len | abs | int | all | any | tuple | list | sorted | str | repr | sum
inductive Src | seq | rng1 | rng2 | rng3 | enum | zip
inductive Tg | name (i : Nat) | nil | cons (a b : Tg)
inductive E where
  | var (i : Nat) | c (d : PyData)
  | op (o : Op) (a b : E) | cm (o : Cm) (a b : E) | ch (o o' : Cm) (a b c : E) | neg (a : E)
  | and (a b : E) | or (a b : E) | not (a : E) | ite (t a b : E)
  | nil | cons (a b : E) | ref (i : Nat)
  | tup (es : E) | lst (es : E) | ix (a i : E) | sl (a lo hi : E)
  | call (f : Str) (es : E) | callk (f : Str) (es : E) (perm : List Nat) | rev (a : E) | b1 (b : B1) (a : E) | min2 (a b : E) | max2 (a b : E)
  | isi (a : E) (ts : List Ty) | pop (i : Nat) (a : E)
  | mkx (nm f : Str) (a : E) | att (a : E) (f : Str) (all : List Str) | isx (a : E) (yes all : List Str) | callf (f : Str) (a : E) | rg (t : Bool) (a b : E) | idx (a b : E) | cnt (a b : E) | mmd (mx : Bool) (a b : E)
  | sset (a : E) | lset (a : E) | callb (f : Str) (es : E) | tru (a : E) | comp2 (k : Src) (src : E) (tg : Tg) (test : E) (k1 : Src) (src1 : E) (tg1 : Tg) (test1 elt : E) | comp3 (k : Src) (src : E) (tg : Tg) (test : E) (k1 : Src) (src1 : E) (tg1 : Tg) (test1 : E) (k2 : Src) (src2 : E) (tg2 : Tg) (test2 elt : E)
  | dsp (a b : E) | get (a b d : E) | dcp (k : Src) (src : E) (tg : Tg) (test key val : E)
  | comp (k : Src) (src : E) (tg : Tg) (test elt : E)
  | sum1 (a : E) | mm1 (mx : Bool) (a : E)
  | ord (o : Cm) (a b : E) | mm3 (mx : Bool) (a b d : E)
inductive C where
  | skip | seq (a b : C)
  | set (i : Nat) (e : E) | par2 (i j : Nat) (a b : E) | par3 (i j l : Nat) (a b d : E) | unp (tg : Tg) (e : E)
  | ret (e : E) | cond (t : E) (a b : C) | loop (k : Src) (src : E) (tg : Tg) (b : C) | whl (t : E) (b : C)
  | brk | cont | app (i : Nat) (e : E) | put (i : Nat) (j e : E) | ins (i : Nat) (j e : E) | drop (e : E)
  | raise (nm f : Str) (e : E) | try_ (b : C) (yes all : List Str) (i j : Nat)
  | put2 (i : Nat) (j e j' e' : E) | ext (i : Nat) (e : E)
  | scope (x : Nat) (a b : E) (fz : List Nat) (Q : List Nat) (body : C)
  | loopb (i : Nat) (tg : Tg) (b : C)

/-! ### what is known of a name -/
inductive Slot | no | dat (d : PyData) | own (ds : List PyData) | lock (ds : List PyData)
abbrev En := List Slot
inductive Val | dat (d : PyData) | new (ds : List PyData)
def Val.d : Val → PyData
  | .dat d => d
  | .new ds => .list ds
def Val.slot : Val → Slot
  | .dat d => .dat d
  | .new ds => .own ds
def view : Slot → Option PyData
  | .no => none
  | .dat d => some d
  | .own ds => some (.list ds)
  | .lock ds => some (.list ds)
def isOwn : Slot → Bool
  | .own _ => true
  | .lock _ => true
  | _ => false
structure Exc where
  cls : Str
  fs : List (Str × PyData)
/-- an exception that is held: its class, its field -/
def xcD (nm f : Str) (d : PyData) : PyData := .dict [(.str nm, .dict [(.str f, d)])]
def excD (x : Exc) : Option PyData := match x.fs with
  | [(f, d)] => some (xcD x.cls f d)
  | _ => none
def attD (f : Str) (all : List Str) : PyData → Option PyData
  | .dict [(.str nm, .dict [(.str g, d)])] => if g = f ∧ nm ∈ all then some d else none
  | _ => none
def isxD (yes all : List Str) : PyData → Option Bool
  | .dict [(.str nm, .dict [(.str _, _)])] => if nm ∈ all then some (decide (nm ∈ yes)) else none
  | _ => none
inductive R (ε α : Type) | ok (a : α) | exc (x : Exc) (e : ε) | bad
inductive Arg | d (d : PyData) | r (i : Nat)
inductive PArg | d (d : PyData) | r (ds : List PyData)
abbrev Orc := Str → List PArg → R (List (List PyData)) (Val × List (List PyData))

/-! ### operations on data -/
def big : Nat := 100000
def opD : Op → PyData → PyData → Option Val
  | .add, .int i, .int j => some (.dat (.int (i + j)))
  | .sub, .int i, .int j => some (.dat (.int (i - j)))
  | .mul, .int i, .int j => if (-(2 ^ 64) < i ∧ i < 2 ^ 64) ∨ (-(2 ^ 64) < j ∧ j < 2 ^ 64) then some (.dat (.int (i * j))) else none
  | .fdiv, .int i, .int j => if 0 < j ∧ j < 1073741824 then some (.dat (.int (i / j))) else none
  | .mod, .int i, .int j => if 0 < j then some (.dat (.int (i % j))) else none
  | .pow, .int i, .int j => if 0 ≤ j ∧ j ≤ 1000 ∧ i.natAbs < 2 ^ 64 then some (.dat (.int (i ^ j.toNat))) else none
  | .add, .str x, .str y => if x.length + y.length ≤ big then some (.dat (.str (x ++ y))) else none
  | .add, .list xs, .list ys => if xs.length + ys.length ≤ big then some (.new (xs ++ ys)) else none
  | .add, .tuple xs, .tuple ys => if xs.length + ys.length ≤ big then some (.dat (.tuple (xs ++ ys))) else none
  | .mul, .list xs, .int k => if 0 ≤ k ∧ xs.length * k.toNat ≤ big ∧ k ≤ 1000000 then some (.new (List.replicate k.toNat xs).flatten) else none
  | .mul, .tuple xs, .int k => if xs ≠ [] ∧ 0 ≤ k ∧ k ≤ 1000 ∧ xs.length ≤ 1000 then some (.dat (.tuple (List.replicate k.toNat xs).flatten)) else none
  | _, _, _ => none

def cmI : Cm → Int → Int → Option Bool
  | .lt, i, j => some (decide (i < j))
  | .le, i, j => some (decide (i ≤ j))
  | .gt, i, j => some (decide (j < i))
  | .ge, i, j => some (decide (j ≤ i))
  | _, _, _ => none
/-- data without lists or tuples -/
def flat : PyData → Bool
  | .none => true
  | .bool _ => true
  | .int _ => true
  | .str _ => true
  | _ => false
/-- == can be told of these -/
def okEq : PyData → PyData → Bool
  | .int _, .int _ => true
  | .str _, .str _ => true
  | .bool _, .bool _ => true
  | x, y => SeqAt.shaped x && SeqAt.shaped y
def isNone : PyData → Bool
  | .none => true
  | _ => false
def cmD : Cm → PyData → PyData → Option Bool
  | .eq, x, y => if okEq x y = true then some (PyData.eqv x y) else none
  | .ne, x, y => if okEq x y = true then some (!PyData.eqv x y) else none
  | .is_, x, .none => some (isNone x)
  | .isnot, x, .none => some (!isNone x)
  | .is_, .bool a, .bool b => some (decide (a = b))
  | .isnot, .bool a, .bool b => some (!decide (a = b))
  | .in_, x, .list ys => if flat x = true ∧ ys.all flat = true then some (ys.any fun y => PyData.eqv y x) else if SeqAt.shaped x = true ∧ SeqAt.shaped (.list ys) = true then some (ys.any fun y => PyData.eqv y x) else none
  | .in_, x, .tuple ys => if flat x = true ∧ ys.all flat = true then some (ys.any fun y => PyData.eqv y x) else none
  | .notin, x, .list ys => if flat x = true ∧ ys.all flat = true then some (!ys.any fun y => PyData.eqv y x) else if SeqAt.shaped x = true ∧ SeqAt.shaped (.list ys) = true then some (!ys.any fun y => PyData.eqv y x) else none
  | .notin, x, .tuple ys => if flat x = true ∧ ys.all flat = true then some (!ys.any fun y => PyData.eqv y x) else none
  | o, .int i, .int j => cmI o i j
  | _, _, _ => none
/-- the class of data; a list that is only read (the script) is told as a dict and has none here -/
def dTy : PyData → Option String
  | .none => some "NoneType"
  | .bool _ => some "bool"
  | .int _ => some "int"
  | .str _ => some "str"
  | .list _ => some "list"
  | .tuple _ => some "tuple"
  | .dict _ => none
def tyD : PyData → Ty → Bool
  | .bool _, .bool => true
  | .bool _, .int => true
  | .int _, .int => true
  | .str _, .str => true
  | .list _, .list => true
  | .tuple _, .tuple => true
  | _, _ => false
/-- the truth values of a list -/
def boolsOf : List PyData → Option (List Bool)
  | [] => some []
  | .bool b :: r => (boolsOf r).map (b :: ·)
  | _ => none
/-- the numbers of a list -/
def intsOf : List PyData → Option (List Int)
  | [] => some []
  | .int i :: r => (intsOf r).map (i :: ·)
  | _ => none
def insI (i : Int) : List Int → List Int
  | [] => [i]
  | j :: r => if i ≤ j then i :: j :: r else j :: insI i r
def sortI : List Int → List Int
  | [] => []
  | i :: r => insI i (sortI r)
def b1D : B1 → PyData → Option Val
  | .sorted, .list xs => (intsOf xs).map fun is => .new ((sortI is).map .int)
  | .sorted, .tuple xs => (intsOf xs).map fun is => .new ((sortI is).map .int)
  | .len, .list xs => some (.dat (.int xs.length))
  | .len, .tuple xs => some (.dat (.int xs.length))
  | .len, .dict [(.none, .list xs)] => some (.dat (.int xs.length))
  | .len, .str x => if x.length ≤ big then some (.dat (.int x.length)) else none
  | .abs, .int i => some (.dat (.int i.natAbs))
  | .int, .bool b => some (.dat (.int (if b then 1 else 0)))
  | .all, .list xs => (boolsOf xs).map fun bs => .dat (.bool (bs.all id))
  | .any, .list xs => (boolsOf xs).map fun bs => .dat (.bool (bs.any id))
  | .tuple, .list xs => some (.dat (.tuple xs))
  | .tuple, .tuple xs => some (.dat (.tuple xs))
  | .list, .list xs => some (.new xs)
  | .list, .tuple xs => some (.new xs)
  | .str, .int i => if i.natAbs.log2 < 1920 then some (.dat (.str (toString i))) else none
  | .repr, d => if d.showable = true ∧ d.canLay0 = true ∧ d.hasDict = false ∧ d.depth ≤ 50 ∧ d.shown.length ≤ big then some (.dat (.str d.shown)) else none
  | _, _ => none
def seqOf : PyData → Option (List PyData)
  | .list xs => some xs
  | .tuple xs => some xs
  | _ => none
def ixD : PyData → PyData → Option PyData
  | .dict [(.none, .list xs)], .int i => atI xs i
  | .list xs, .int i => atI xs i
  | .tuple xs, .int i => atI xs i
  | _, _ => none
def cutD (xs : List PyData) (lo hi : Option Int) : List PyData := (xs.drop (HT.sIx xs.length 0 lo)).take (HT.sIx xs.length xs.length hi - HT.sIx xs.length 0 lo)
def slD : PyData → Option Int → Option Int → Option Val
  | .list xs, lo, hi => some (.new (cutD xs lo hi))
  | .tuple xs, lo, hi => some (.dat (.tuple (cutD xs lo hi)))
  | _, _, _ => none
/-- what is walked -/
def intsD (lo : Int) : Nat → List PyData
  | 0 => []
  | n + 1 => .int lo :: intsD (lo + 1) n
def downD (hi : Int) : Nat → List PyData
  | 0 => []
  | n + 1 => .int hi :: downD (hi - 1) n
def enumD (i : Int) : List PyData → List PyData
  | [] => []
  | x :: r => .tuple [.int i, x] :: enumD (i + 1) r
def zipD : List PyData → List PyData → List PyData
  | x :: r, y :: s => .tuple [x, y] :: zipD r s
  | _, _ => []
def tgGo : Tg → PyData → En → Option En
  | .name i, d, ρ => some (ρ.set i (.dat d))
  | .nil, _, _ => none
  | .cons _ _, .tuple [], _ => none
  | .cons a .nil, .tuple [x], ρ => tgGo a x ρ
  | .cons a b, .tuple (x :: r), ρ => (tgGo a x ρ).bind fun ρ1 => tgGo b (.tuple r) ρ1
  | .cons _ _, .list [], _ => none
  | .cons a .nil, .list [x], ρ => tgGo a x ρ
  | .cons a b, .list (x :: r), ρ => (tgGo a x ρ).bind fun ρ1 => tgGo b (.tuple r) ρ1
  | .cons _ _, _, _ => none
def Tg.slots : Tg → List Nat
  | .name i => [i]
  | .nil => []
  | .cons a b => a.slots ++ b.slots
def wipeE (ρ : En) : List Nat → En
  | [] => ρ
  | v :: vs => (wipeE ρ vs).set v .no
/-- the slots vs as they were in ρ, all others as in ρ' -/
def backE (ρ ρ' : En) : List Nat → En
  | [] => ρ'
  | v :: vs => match ρ[v]? with
    | some s => (backE ρ ρ' vs).set v s
    | none => backE ρ ρ' vs

/-! ### running -/
section
variable (cl : Orc)
def R.map {ε α β : Type} (f : α → β) : R ε α → R ε β
  | .ok a => .ok (f a)
  | .exc x e => .exc x e
  | .bad => .bad
def ofO {α : Type} (ρ : En) : Option α → R En (α × En)
  | some a => .ok (a, ρ)
  | none => .bad
/-- an operand that is only looked at -/
def vwOf (e : E) (ρ : En) (r : R En (Val × En)) : R En (PyData × En) := match e with
  | .var i => match ρ[i]? with
    | some s => ofO ρ (view s)
    | none => .bad
  | _ => match r with
    | .ok (v, ρ') => .ok (v.d, ρ')
    | .exc x e => .exc x e
    | .bad => .bad
/-- the operand as it stands later -/
def reD (e : E) (ρ : En) (d : PyData) : Option PyData := match e with
  | .var i => match ρ[i]? with
    | some s => view s
    | none => none
  | _ => some d
def bnd {α β : Type} (r : R En (α × En)) (f : α → En → R En (β × En)) : R En (β × En) := match r with
  | .ok (a, ρ) => f a ρ
  | .exc x ρ => .exc x ρ
  | .bad => .bad
def truth : PyData → Option Bool
  | .bool b => some b
  | _ => none
/-- the turns of a comprehension: test, element, target, items left, list so far -/
def compGo (test elt : En → R En (Val × En)) (tg : Tg) : List PyData → List PyData → En → R En (List PyData × En)
  | [], acc, ρ => .ok (acc, ρ)
  | x :: r, acc, ρ => match tgGo tg x ρ with
    | none => .bad
    | some ρ1 => match test ρ1 with
      | .ok (.dat (.bool true), ρ2) => match elt ρ2 with
        | .ok (v, ρ3) => compGo test elt tg r (acc ++ [v.d]) (wipeE ρ3 tg.slots)
        | _ => .bad
      | .ok (.dat (.bool false), ρ2) => compGo test elt tg r acc (wipeE ρ2 tg.slots)
      | _ => .bad
/-- two fors: inner makes the list longer, behind the outer target's store and test; vs: the names of both targets -/
def comp2Go (test : En → R En (Val × En)) (inner : List PyData → En → R En (List PyData × En)) (tg : Tg) (vs : List Nat) : List PyData → List PyData → En → R En (List PyData × En)
  | [], acc, ρ => .ok (acc, ρ)
  | x :: r, acc, ρ => match tgGo tg x ρ with
    | none => .bad
    | some ρ1 => match test ρ1 with
      | .ok (.dat (.bool true), ρ2) => match inner acc ρ2 with
        | .ok (acc1, ρ3) => comp2Go test inner tg vs r acc1 (wipeE ρ3 vs)
        | _ => .bad
      | .ok (.dat (.bool false), ρ2) => comp2Go test inner tg vs r acc (wipeE ρ2 vs)
      | _ => .bad
/-- ascending, each once -/
def insU (i : Int) : List Int → List Int
  | [] => [i]
  | j :: r => if i < j then i :: j :: r else if i = j then j :: r else j :: insU i r
def usortI : List Int → List Int
  | [] => []
  | i :: r => insU i (usortI r)
def ssetD : PyData → Option Val
  | .tuple xs => (intsOf xs).bind fun is => if is.length < 64 then some (.new ((usortI is).map .int)) else none
  | _ => none
def lsetD : PyData → Option Val
  | .tuple xs => (intsOf xs).bind fun is => if is.length < 64 then some (.dat (.int ((usortI is).length : Nat))) else none
  | _ => none
/-- names alone, looked at: their data, lists that they own too -/
def plainArgs (ρ : En) : E → Option (List PyData)
  | .nil => some []
  | .cons (.var j) r => match ρ[j]? with
    | some (.dat d) => (plainArgs ρ r).map (d :: ·)
    | some (.own ds) => (plainArgs ρ r).map (.list ds :: ·)
    | _ => none
  | _ => none
/-- the truth of a value -/
def truD : PyData → Option Bool
  | .bool b => some b
  | .int i => some (i != 0)
  | .list xs => some (!xs.isEmpty)
  | .tuple xs => some (!xs.isEmpty)
  | _ => none
/-! dicts that nobody changes -/
def dctD (ks vs : List PyData) : PyData := .dict [(.bool true, .tuple [.list ks, .list vs])]
def dctOf : PyData → Option (List PyData × List PyData)
  | .dict [(.bool true, .tuple [.list ks, .list vs])] => some (ks, vs)
  | _ => none
def isK (i : Int) : PyData → Bool
  | .int j => decide (j = i)
  | _ => false
def getK (i : Int) : List PyData → List PyData → Option PyData
  | k :: ks, v :: vs => if isK i k = true then some v else getK i ks vs
  | _, _ => none
def setV (i : Int) (d : PyData) : List PyData → List PyData → List PyData
  | k :: ks, v :: vs => (if isK i k = true then d else v) :: setV i d ks vs
  | _, _ => []
def putD (i : Int) (d : PyData) (ks vs : List PyData) : List PyData × List PyData := if ks.any (isK i) = true then (ks, setV i d ks vs) else (ks ++ [.int i], vs ++ [d])
/-- the turns of a dict comprehension -/
def dcompGo (test key val : En → R En (Val × En)) (tg : Tg) : List PyData → List PyData → List PyData → En → R En ((List PyData × List PyData) × En)
  | [], ks, vs, ρ => .ok ((ks, vs), ρ)
  | x :: r, ks, vs, ρ => match tgGo tg x ρ with
    | none => .bad
    | some ρ1 => match test ρ1 with
      | .ok (.dat (.bool true), ρ2) => match key ρ2 with
        | .ok (.dat (.int i), ρ3) => match val ρ3 with
          | .ok (v, ρ4) => dcompGo test key val tg r (putD i v.d ks vs).1 (putD i v.d ks vs).2 (wipeE ρ4 tg.slots)
          | _ => .bad
        | _ => .bad
      | .ok (.dat (.bool false), ρ2) => dcompGo test key val tg r ks vs (wipeE ρ2 tg.slots)
      | _ => .bad
/-- what is walked of a value: the items, or a dict's keys -/
def walkOf (x : PyData) : Option (List PyData) := match dctOf x with
  | some (ks, _) => some ks
  | none => seqOf x
def argsD : List Arg → Option (List PyData)
  | [] => some []
  | .d x :: r => (argsD r).map (x :: ·)
  | .r _ :: _ => none
/-- the items that are walked, from the source's values -/
def srcD : Src → List PyData → Option (List PyData)
  | .seq, [x] => walkOf x
  | .rng1, [.int n] => if n < 1000000 ∧ -1000000 < n then some (intsD 0 n.toNat) else none
  | .rng2, [.int a, .int b] => if a < 1000000 ∧ -1000000 < a ∧ b < 1000000 ∧ -1000000 < b then some (intsD a (b - a).toNat) else none
  | .rng3, [.int a, .int b, .int c] => if c = -1 ∧ a < 1000000 ∧ -1000000 < a ∧ b < 1000000 ∧ -1000000 < b then some (downD a (a - b).toNat) else none
  | .enum, [x] => (seqOf x).map (enumD 0)
  | .zip, [.list xs, .list ys] => some (zipD xs ys)
  | .zip, [.tuple xs, .tuple ys] => some (zipD xs ys)
  | _, _ => none
def refsIn (ρ : En) : List Arg → Option (List PArg)
  | [] => some []
  | .d x :: r => (refsIn ρ r).map (.d x :: ·)
  | .r i :: r => match ρ[i]? with
    | some (.own ds) => (refsIn ρ r).map (.r ds :: ·)
    | _ => none
def refIs : List Arg → List Nat
  | [] => []
  | .d _ :: r => refIs r
  | .r i :: r => i :: refIs r
def backRefs (ρ : En) : List Nat → List (List PyData) → Option En
  | [], [] => some ρ
  | i :: is, ds :: dss => backRefs (ρ.set i (.own ds)) is dss
  | _, _ => none
def callGo (f : Str) (args : List Arg) (ρ : En) : R En (Val × En) := match refsIn ρ args with
  | none => .bad
  | some ps => if (refIs args).Nodup then match cl f ps with
    | .ok (v, dss) => match backRefs ρ (refIs args) dss with
      | some ρ' => .ok (v, ρ')
      | none => .bad
    | .exc x dss => match backRefs ρ (refIs args) dss with
      | some ρ' => .exc x ρ'
      | none => .bad
    | .bad => .bad
  else .bad
/-- the list at a name is its own -/
def ownAt (ρ : En) (i : Nat) : Bool := match ρ[i]? with
  | some (.own _) => true
  | _ => false
def popD (ds : List PyData) (j : Int) : Option (PyData × List PyData) := if -1000000 < j ∧ j < 1000000 then
    match seqIndex? j ds.length with
    | some k => match ds[k]? with
      | some d => some (d, ds.eraseIdx k)
      | none => none
    | none => none
  else none
def permL {α : Type} (perm : List Nat) (l : List α) : List α := perm.filterMap fun i => l[i]?
def revD : PyData → Option Val
  | .list xs => some (.new xs.reverse)
  | .tuple xs => if xs ≠ [] then some (.dat (.tuple xs.reverse)) else some (.dat (.tuple []))
  | _ => none
/-- a.index(b), flat items -/
def idxGo (y : PyData) : Nat → List PyData → Option Nat
  | _, [] => none
  | i, x :: r => if PyData.eqv x y = true then some i else idxGo y (i + 1) r
def idxD : PyData → PyData → Option Int
  | .list xs, y => if flat y = true ∧ xs.all flat = true then (idxGo y 0 xs).map Int.ofNat else none
  | .tuple xs, y => if flat y = true ∧ xs.all flat = true then (idxGo y 0 xs).map Int.ofNat else none
  | _, _ => none
def isLD : PyData → Bool
  | .list _ => true
  | _ => false
def isTD : PyData → Bool
  | .tuple _ => true
  | _ => false
def cntD : PyData → PyData → Option Int
  | .list xs, y => if flat y = true ∧ xs.all flat = true then some ((xs.countP fun x => PyData.eqv x y : Nat) : Int) else none
  | _, _ => none
/-- sum, max, min of a list of numbers -/
def sumD : PyData → Option Val
  | .list xs => (intsOf xs).map fun is => .dat (.int is.sum)
  | _ => none
def mmI (mx : Bool) : List Int → Option Int
  | [] => none
  | i :: r => some (r.foldl (fun a b => if mx then (if a < b then b else a) else (if b < a then b else a)) i)
def mmD (mx : Bool) : PyData → Option Val
  | .list xs => (intsOf xs).bind fun is => (mmI mx is).map fun i => .dat (.int i)
  | _ => none
/-! tuples of numbers in their order -/
def ltI : List Int → List Int → Bool
  | [], [] => false
  | [], _ :: _ => true
  | _ :: _, [] => false
  | i :: a, j :: b => if i = j then ltI a b else decide (i < j)
def ltD : PyData → PyData → Bool
  | .int i, .int j => decide (i < j)
  | .tuple xs, .tuple ys => match intsOf xs, intsOf ys with
    | some a, some b => ltI a b
    | _, _ => false
  | _, _ => false
def intTup : PyData → Bool
  | .tuple xs => (intsOf xs).isSome
  | _ => false
def ordD (o : Cm) (x y : PyData) : Option Bool := if intTup x = true ∧ intTup y = true then (match o with
    | .lt => some (ltD x y)
    | .gt => some (ltD y x)
    | .le => some (!ltD y x)
    | .ge => some (!ltD x y)
    | _ => none) else none
/-- the first of the least, of the greatest -/
def betD (mx : Bool) (a y : PyData) : Bool := if mx then ltD a y else ltD y a
def bestD (mx : Bool) (x : PyData) (l : List PyData) : PyData := l.foldl (fun a y => if betD mx a y = true then y else a) x
def mm3D (mx : Bool) (x y z : PyData) : Option PyData := if intTup x = true ∧ intTup y = true ∧ intTup z = true then some (bestD mx x [y, z]) else none
def mmdD (mx : Bool) : PyData → PyData → Option PyData
  | .list [], d => some d
  | .list (y :: ys), _ => if (intsOf (y :: ys)).isSome = true ∨ (y :: ys).all intTup = true then some (bestD mx y ys) else none
  | _, _ => none
mutual
def ev : E → En → R En (Val × En)
  | .var i => fun ρ => match ρ[i]? with
    | some (.dat d) => .ok (.dat d, ρ)
    | some (.own ds) => .ok (.dat (.list ds), ρ.set i (.dat (.list ds)))
    | _ => .bad
  | .c d => fun ρ => .ok (.dat d, ρ)
  | .op o a b => fun ρ => bnd (vwOf a ρ (ev a ρ)) fun x ρ1 => bnd (vwOf b ρ1 (ev b ρ1)) fun y ρ2 => match reD a ρ2 x with
    | some x => ofO ρ2 (opD o x y)
    | none => .bad
  | .cm o a b => fun ρ => bnd (vwOf a ρ (ev a ρ)) fun x ρ1 => bnd (vwOf b ρ1 (ev b ρ1)) fun y ρ2 => match reD a ρ2 x with
    | some x => ofO ρ2 ((cmD o x y).map fun b => .dat (.bool b))
    | none => .bad
  | .ch o o' a b c => fun ρ => bnd (vwOf a ρ (ev a ρ)) fun x ρ1 => bnd (vwOf b ρ1 (ev b ρ1)) fun y ρ2 => match x, y with
    | .int i, .int j => match cmI o i j with
      | some true => bnd (vwOf c ρ2 (ev c ρ2)) fun z ρ3 => match z with
        | .int k => ofO ρ3 ((cmI o' j k).map fun b => .dat (.bool b))
        | _ => .bad
      | some false => .ok (.dat (.bool false), ρ2)
      | none => .bad
    | _, _ => .bad
  | .neg a => fun ρ => bnd (ev a ρ) fun v ρ1 => match v with
    | .dat (.int i) => .ok (.dat (.int (-i)), ρ1)
    | _ => .bad
  | .and a b => fun ρ => bnd (ev a ρ) fun v ρ1 => match v with
    | .dat (.bool true) => ev b ρ1
    | .dat (.bool false) => .ok (.dat (.bool false), ρ1)
    | _ => .bad
  | .or a b => fun ρ => bnd (ev a ρ) fun v ρ1 => match v with
    | .dat (.bool true) => .ok (.dat (.bool true), ρ1)
    | .dat (.bool false) => ev b ρ1
    | _ => .bad
  | .not a => fun ρ => bnd (ev a ρ) fun v ρ1 => match v with
    | .dat (.bool b) => .ok (.dat (.bool (!b)), ρ1)
    | _ => .bad
  | .ite t a b => fun ρ => bnd (ev t ρ) fun v ρ1 => match v with
    | .dat (.bool true) => ev a ρ1
    | .dat (.bool false) => ev b ρ1
    | _ => .bad
  | .nil => fun _ => .bad
  | .cons _ _ => fun _ => .bad
  | .ref _ => fun _ => .bad
  | .tup es => fun ρ => bnd (evs es ρ) fun as ρ1 => match argsD as with
    | some ds => if ds.length ≤ big then .ok (.dat (.tuple ds), ρ1) else .bad
    | none => .bad
  | .lst es => fun ρ => bnd (evs es ρ) fun as ρ1 => match argsD as with
    | some ds => if ds.length ≤ big then .ok (.new ds, ρ1) else .bad
    | none => .bad
  | .ix a b => fun ρ => bnd (vwOf a ρ (ev a ρ)) fun x ρ1 => bnd (vwOf b ρ1 (ev b ρ1)) fun y ρ2 => match reD a ρ2 x with
    | some x => ofO ρ2 ((ixD x y).map .dat)
    | none => .bad
  | .sl a lo hi => fun ρ => bnd (vwOf a ρ (ev a ρ)) fun x ρ1 => match lo, hi with
    | .nil, .nil => match reD a ρ1 x with
      | some x => ofO ρ1 (slD x none none)
      | none => .bad
    | .nil, hi => bnd (ev hi ρ1) fun v ρ2 => match v, reD a ρ2 x with
      | .dat (.int j), some x => ofO ρ2 (slD x none (some j))
      | _, _ => .bad
    | lo, .nil => bnd (ev lo ρ1) fun v ρ2 => match v, reD a ρ2 x with
      | .dat (.int i), some x => ofO ρ2 (slD x (some i) none)
      | _, _ => .bad
    | lo, hi => bnd (ev lo ρ1) fun u ρ2 => match u with
      | .dat (.int i) => bnd (ev hi ρ2) fun v ρ3 => match v, reD a ρ3 x with
        | .dat (.int j), some x => ofO ρ3 (slD x (some i) (some j))
        | _, _ => .bad
      | _ => .bad
  | .call f es => fun ρ => bnd (evs es ρ) fun as ρ1 => callGo cl f as ρ1
  | .callk f es perm => fun ρ => bnd (evs es ρ) fun as ρ1 => match argsD as with
    | some ds => if perm.length = ds.length ∧ perm.all (fun i => decide (i < ds.length)) = true then callGo cl f (permL perm (ds.map .d)) ρ1 else .bad
    | none => .bad
  | .rev a => fun ρ => bnd (vwOf a ρ (ev a ρ)) fun x ρ1 => ofO ρ1 (revD x)
  | .b1 b a => fun ρ => bnd (vwOf a ρ (ev a ρ)) fun x ρ1 => ofO ρ1 (b1D b x)
  | .min2 a b => fun ρ => bnd (ev a ρ) fun u ρ1 => bnd (ev b ρ1) fun v ρ2 => match u, v with
    | .dat (.int i), .dat (.int j) => .ok (.dat (.int (if j < i then j else i)), ρ2)
    | _, _ => .bad
  | .max2 a b => fun ρ => bnd (ev a ρ) fun u ρ1 => bnd (ev b ρ1) fun v ρ2 => match u, v with
    | .dat (.int i), .dat (.int j) => .ok (.dat (.int (if j > i then j else i)), ρ2)
    | _, _ => .bad
  | .pop i a => fun ρ => if ownAt ρ i then bnd (ev a ρ) fun v ρ1 => match v, ρ1[i]? with
      | .dat (.int j), some (.own ds) => match popD ds j with
        | some (d, ds') => .ok (.dat d, ρ1.set i (.own ds'))
        | none => .bad
      | _, _ => .bad
    else .bad
  | .isi a ts => fun ρ => bnd (vwOf a ρ (ev a ρ)) fun x ρ1 => if (dTy x).isSome then .ok (.dat (.bool (ts.any (tyD x))), ρ1) else .bad
  | .mkx nm f a => fun ρ => bnd (ev a ρ) fun v ρ1 => .ok (.dat (xcD nm f v.d), ρ1)
  | .att a f all => fun ρ => bnd (vwOf a ρ (ev a ρ)) fun x ρ1 => ofO ρ1 ((attD f all x).map .dat)
  | .isx a yes all => fun ρ => bnd (vwOf a ρ (ev a ρ)) fun x ρ1 => ofO ρ1 ((isxD yes all x).map fun b => .dat (.bool b))
  | .callf f a => fun ρ => bnd (ev a ρ) fun v ρ1 => match v with
    | .new ds => match cl f [.r ds] with
      | .ok (w, [_]) => .ok (w, ρ1)
      | .exc x [_] => .exc x ρ1
      | _ => .bad
    | _ => .bad
  | .rg t a b => fun ρ => bnd (ev a ρ) fun u ρ1 => bnd (ev b ρ1) fun v ρ2 => match u, v with
    | .dat (.int i), .dat (.int j) => if -1000000 < i ∧ i < 1000000 ∧ -1000000 < j ∧ j < 1000000 then .ok (if t then .dat (.tuple (intsD i (j - i).toNat)) else .new (intsD i (j - i).toNat), ρ2) else .bad
    | _, _ => .bad
  | .idx a b => fun ρ => bnd (vwOf a ρ (ev a ρ)) fun x ρ1 => if isLD x || isTD x then bnd (vwOf b ρ1 (ev b ρ1)) fun y ρ2 => (match reD a ρ2 x with
    | some x' => if isLD x' == isLD x then ofO ρ2 ((idxD x' y).map fun i => .dat (.int i)) else .bad
    | none => .bad) else .bad
  | .cnt a b => fun ρ => bnd (vwOf a ρ (ev a ρ)) fun x ρ1 => if isLD x then bnd (vwOf b ρ1 (ev b ρ1)) fun y ρ2 => (match reD a ρ2 x with
    | some x => ofO ρ2 ((cntD x y).map fun i => .dat (.int i))
    | none => .bad) else .bad
  | .mmd mx a b => fun ρ => bnd (vwOf a ρ (ev a ρ)) fun x ρ1 => bnd (ev b ρ1) fun v ρ2 => match reD a ρ2 x, v with
    | some x, .dat d => ofO ρ2 ((mmdD mx x d).map .dat)
    | _, _ => .bad
  | .ord o a b => fun ρ => bnd (vwOf a ρ (ev a ρ)) fun x ρ1 => bnd (vwOf b ρ1 (ev b ρ1)) fun y ρ2 => match reD a ρ2 x with
    | some x => ofO ρ2 ((ordD o x y).map fun b => .dat (.bool b))
    | none => .bad
  | .mm3 mx a b d => fun ρ => bnd (ev a ρ) fun u ρ1 => bnd (ev b ρ1) fun v ρ2 => bnd (ev d ρ2) fun w ρ3 => match u, v, w with
    | .dat x, .dat y, .dat z => ofO ρ3 ((mm3D mx x y z).map .dat)
    | _, _, _ => .bad
  | .sset a => fun ρ => bnd (vwOf a ρ (ev a ρ)) fun x ρ1 => ofO ρ1 (ssetD x)
  | .lset a => fun ρ => bnd (vwOf a ρ (ev a ρ)) fun x ρ1 => ofO ρ1 (lsetD x)
  | .callb f es => fun ρ => match plainArgs ρ es with
    | some dd => match cl f (dd.map .d) with
      | .ok (.dat v, []) => if flat v = true then .ok (.dat v, ρ) else .bad
      | _ => .bad
    | none => .bad
  | .tru a => fun ρ => bnd (vwOf a ρ (ev a ρ)) fun x ρ1 => ofO ρ1 ((truD x).map fun b => .dat (.bool b))
  | .comp2 k src tg test k1 src1 tg1 test1 elt => fun ρ => bnd (evs src ρ) fun as ρ1 => match (argsD as).bind (srcD k) with
    | some items => match comp2Go (ev test) (fun acc ρ2 => bnd (evs src1 ρ2) fun as1 ρ3 => match (argsD as1).bind (srcD k1) with
        | some items1 => compGo (ev test1) (ev elt) tg1 items1 acc (wipeE ρ3 tg1.slots)
        | none => .bad) tg (tg.slots ++ tg1.slots) items [] (wipeE ρ1 (tg.slots ++ tg1.slots)) with
      | .ok (ds, ρ2) => if ds.length ≤ big then .ok (.new ds, backE ρ1 ρ2 (tg.slots ++ tg1.slots)) else .bad
      | _ => .bad
    | none => .bad
  | .comp3 k src tg test k1 src1 tg1 test1 k2 src2 tg2 test2 elt => fun ρ => bnd (evs src ρ) fun as ρ1 => match (argsD as).bind (srcD k) with
    | some items => match comp2Go (ev test) (fun acc ρ2 => bnd (evs src1 ρ2) fun as1 ρ3 => match (argsD as1).bind (srcD k1) with
        | some items1 => comp2Go (ev test1) (fun acc ρ2 => bnd (evs src2 ρ2) fun as2 ρ3 => match (argsD as2).bind (srcD k2) with
            | some items2 => compGo (ev test2) (ev elt) tg2 items2 acc (wipeE ρ3 tg2.slots)
            | none => .bad) tg1 (tg1.slots ++ tg2.slots) items1 acc (wipeE ρ3 (tg1.slots ++ tg2.slots))
        | none => .bad) tg (tg.slots ++ (tg1.slots ++ tg2.slots)) items [] (wipeE ρ1 (tg.slots ++ (tg1.slots ++ tg2.slots))) with
      | .ok (ds, ρ2) => if ds.length ≤ big then .ok (.new ds, backE ρ1 ρ2 (tg.slots ++ (tg1.slots ++ tg2.slots))) else .bad
      | _ => .bad
    | none => .bad
  | .dsp a b => fun ρ => bnd (ev a ρ) fun u ρ1 => match u with
    | .dat (.int i) => bnd (ev b ρ1) fun v ρ2 => .ok (.dat (dctD [.int i] [v.d]), ρ2)
    | _ => .bad
  | .get a b d => fun ρ => bnd (ev a ρ) fun u ρ1 => match (match u with | .dat x => dctOf x | _ => none) with
    | some (ks, vs) => bnd (ev b ρ1) fun k ρ2 => bnd (ev d ρ2) fun w ρ3 => match k, w with
      | .dat (.int i), .dat z => .ok (.dat ((getK i ks vs).getD z), ρ3)
      | _, _ => .bad
    | none => .bad
  | .dcp k src tg test key val => fun ρ => bnd (evs src ρ) fun as ρ1 => match (argsD as).bind (srcD k) with
    | some items => match dcompGo (ev test) (ev key) (ev val) tg items [] [] (wipeE ρ1 tg.slots) with
      | .ok ((ks, vs), ρ2) => if ks.length ≤ big then .ok (.dat (dctD ks vs), backE ρ1 ρ2 tg.slots) else .bad
      | _ => .bad
    | none => .bad
  | .comp k src tg test elt => fun ρ => bnd (evs src ρ) fun as ρ1 => match (argsD as).bind (srcD k) with
    | some items => match compGo (ev test) (ev elt) tg items [] (wipeE ρ1 tg.slots) with
      | .ok (ds, ρ2) => if ds.length ≤ big then .ok (.new ds, backE ρ1 ρ2 tg.slots) else .bad
      | _ => .bad
    | none => .bad
  | .sum1 a => fun ρ => bnd (vwOf a ρ (ev a ρ)) fun x ρ1 => ofO ρ1 (sumD x)
  | .mm1 mx a => fun ρ => bnd (vwOf a ρ (ev a ρ)) fun x ρ1 => ofO ρ1 (mmD mx x)
def evs : E → En → R En (List Arg × En)
  | .nil => fun ρ => .ok ([], ρ)
  | .cons (.ref i) b => fun ρ => match ρ[i]? with
    | some (.own _) => bnd (evs b ρ) fun as ρ1 => .ok (.r i :: as, ρ1)
    | _ => .bad
  | .cons a b => fun ρ => bnd (ev a ρ) fun v ρ1 => bnd (evs b ρ1) fun as ρ2 => .ok (.d v.d :: as, ρ2)
  | _ => fun _ => .bad
end
inductive Out | next (ρ : En) | ret (v : Val) (ρ : En) | brk (ρ : En) | cont (ρ : En)
def bndO {α : Type} (r : R En (α × En)) (f : α → En → R En Out) : R En Out := match r with
  | .ok (a, ρ) => f a ρ
  | .exc x ρ => .exc x ρ
  | .bad => .bad
def thenO (r : R En Out) (f : En → R En Out) : R En Out := match r with
  | .ok (.next ρ) => f ρ
  | r => r
def loopGo (body : En → R En Out) (tg : Tg) : List PyData → En → R En Out
  | [], ρ => .ok (.next ρ)
  | x :: r, ρ => match tgGo tg x ρ with
    | none => .bad
    | some ρ1 => match body ρ1 with
      | .ok (.next ρ2) => loopGo body tg r ρ2
      | .ok (.cont ρ2) => loopGo body tg r ρ2
      | .ok (.brk ρ2) => .ok (.next ρ2)
      | .ok (.ret v ρ2) => .ok (.ret v ρ2)
      | .exc x ρ2 => .exc x ρ2
      | .bad => .bad
def whileGo (test : En → R En (Val × En)) (body : En → R En Out) : Nat → En → R En Out
  | 0, _ => .bad
  | n + 1, ρ => match test ρ with
    | .ok (.dat (.bool true), ρ1) => match body ρ1 with
      | .ok (.next ρ2) => whileGo test body n ρ2
      | .ok (.cont ρ2) => whileGo test body n ρ2
      | .ok (.brk ρ2) => .ok (.next ρ2)
      | .ok (.ret v ρ2) => .ok (.ret v ρ2)
      | .exc x ρ2 => .exc x ρ2
      | .bad => .bad
    | .ok (.dat (.bool false), ρ1) => .ok (.next ρ1)
    | .exc x ρ1 => .exc x ρ1
    | _ => .bad
/-- the value of a return: a list that a name owns goes with it -/
def retGo (e : E) (ρ : En) : R En Out := match e with
  | .var i => match ρ[i]? with
    | some (.own ds) => .ok (.ret (.new ds) (ρ.set i .no))
    | _ => bndO (ev cl e ρ) fun v ρ1 => .ok (.ret v ρ1)
  | e => bndO (ev cl e ρ) fun v ρ1 => .ok (.ret v ρ1)
/-- x[j] = d, x a list of its own -/
def putGo (i : Nat) (j : E) (d : PyData) (ρ : En) : R En Out := if ownAt ρ i then bndO (ev cl j ρ) fun w ρ1 => match w, ρ1[i]? with
    | .dat (.int n), some (.own ds) => match ixN ds.length n with
      | some k => .ok (.next (ρ1.set i (.own (ds.set k d))))
      | none => .bad
    | _, _ => .bad
  else .bad
def turns : Nat := 1000000
/-- a list that a name owns becomes plain data -/
def frzE (ρ : En) : List Nat → En
  | [] => ρ
  | i :: is => match (frzE ρ is)[i]? with
    | some (.own ds) => (frzE ρ is).set i (.dat (.list ds))
    | _ => frzE ρ is
/-- the lists that names own are out of sight -/
def veilS : Slot → Slot
  | .own _ => .no
  | .lock _ => .no
  | s => s
/-- the slots of Q as they are, nothing of the others -/
def onlyE (x : Nat) (Q : List Nat) : Nat → En → En
  | _, [] => []
  | i, s :: r => (if i ∈ Q ∧ i ≠ x then s else .no) :: onlyE x Q (i + 1) r
/-- behind a loop over a list that its name owns: the name owns it again -/
def outB (i : Nat) (ds : List PyData) : R En Out → R En Out
  | .ok (.next ρ) => .ok (.next (ρ.set i (.own ds)))
  | .ok (.ret v ρ) => .ok (.ret v (ρ.set i (.own ds)))
  | .exc x ρ => .exc x (ρ.set i (.own ds))
  | _ => .bad
/-- P: the slots of lists that a caller handed over; they are not given other values -/
def exec (P : List Nat) : C → En → R En Out
  | .skip => fun ρ => .ok (.next ρ)
  | .seq a b => fun ρ => thenO (exec P a ρ) (exec P b)
  | .set i e => fun ρ => if i ∈ P then .bad else bndO (ev cl e ρ) fun v ρ1 => .ok (.next (ρ1.set i v.slot))
  | .par2 i j a b => fun ρ => if i ∈ P ∨ j ∈ P then .bad else bndO (ev cl a ρ) fun u ρ1 => bndO (ev cl b ρ1) fun v ρ2 => .ok (.next ((ρ2.set i u.slot).set j v.slot))
  | .par3 i j l a b d => fun ρ => if i ∈ P ∨ j ∈ P ∨ l ∈ P then .bad else bndO (ev cl a ρ) fun u ρ1 => bndO (ev cl b ρ1) fun v ρ2 => bndO (ev cl d ρ2) fun w ρ3 => .ok (.next (((ρ3.set i u.slot).set j v.slot).set l w.slot))
  | .unp tg e => fun ρ => if tg.slots.any (fun i => decide (i ∈ P)) then .bad else bndO (ev cl e ρ) fun v ρ1 => match tgGo tg v.d ρ1 with
    | some ρ2 => .ok (.next ρ2)
    | none => .bad
  | .ret e => fun ρ => retGo cl e ρ
  | .cond t a b => fun ρ => bndO (ev cl t ρ) fun v ρ1 => match v with
    | .dat (.bool true) => exec P a ρ1
    | .dat (.bool false) => exec P b ρ1
    | _ => .bad
  | .loop k src tg b => fun ρ => if tg.slots.any (fun i => decide (i ∈ P)) then .bad else bndO (evs cl src ρ) fun as ρ1 => match (argsD as).bind (srcD k) with
    | some items => loopGo (exec P b) tg items ρ1
    | none => .bad
  | .whl t b => fun ρ => whileGo (ev cl t) (exec P b) turns ρ
  | .brk => fun ρ => .ok (.brk ρ)
  | .cont => fun ρ => .ok (.cont ρ)
  | .app i e => fun ρ => if ownAt ρ i then bndO (ev cl e ρ) fun v ρ1 => match ρ1[i]? with
      | some (.own ds) => if ds.length < big then .ok (.next (ρ1.set i (.own (ds ++ [v.d])))) else .bad
      | _ => .bad
    else .bad
  | .put i j e => fun ρ => bndO (ev cl e ρ) fun v ρ1 => if ownAt ρ1 i then bndO (ev cl j ρ1) fun w ρ2 => match w, ρ2[i]? with
      | .dat (.int n), some (.own ds) => match ixN ds.length n with
        | some k => .ok (.next (ρ2.set i (.own (ds.set k v.d))))
        | none => .bad
      | _, _ => .bad
    else .bad
  | .ins i j e => fun ρ => if ownAt ρ i then bndO (ev cl j ρ) fun w ρ1 => bndO (ev cl e ρ1) fun v ρ2 => match w, ρ2[i]? with
      | .dat (.int n), some (.own ds) => if ds.length < big ∧ 0 ≤ n ∧ n < 1000000 then .ok (.next (ρ2.set i (.own (ds.take n.toNat ++ [v.d] ++ ds.drop n.toNat)))) else .bad
      | _, _ => .bad
    else .bad
  | .drop e => fun ρ => bndO (ev cl e ρ) fun _ ρ1 => .ok (.next ρ1)
  | .raise nm f e => fun ρ => bndO (ev cl e ρ) fun v ρ1 => .exc ⟨nm, [(f, v.d)]⟩ ρ1
  | .try_ b yes all i j => fun ρ => if i ∈ P ∨ j ∈ P then .bad else match exec P b ρ with
    | .exc x ρ1 => if x.cls ∈ all then (if x.cls ∈ yes then (match excD x with
        | some d => .ok (.next ((ρ1.set j (.dat d)).set i .no))
        | none => .bad) else .exc x ρ1) else .bad
    | r => r
  | .put2 i j e j' e' => fun ρ => bndO (ev cl e ρ) fun u ρ1 => bndO (ev cl e' ρ1) fun v ρ2 => match u, v with
    | .dat x, .dat y => thenO (putGo cl i j x ρ2) (putGo cl i j' y)
    | _, _ => .bad
  | .scope x a b fz Q body => fun ρ => if x ∉ P ∧ x ∈ Q ∧ x < ρ.length ∧ P.all (fun i => decide (i ∈ Q)) = true then
      (match ev cl a ((frzE ρ fz).map veilS) with
      | .ok (.new ds, ρ1) => (match ev cl b ρ1 with
        | .ok (.new es, ρ2) => if ds.length < big ∧ es.length < big then
            (match exec Q body (ρ2.set x (.dat (.list [.list ds, .list es]))) with
            | .ok (.next ρ3) => if ρ3.length = ρ.length then .ok (.next (onlyE x Q 0 (frzE ρ fz))) else .bad
            | .ok (.ret (.dat d) ρ3) => if flat d = true ∧ ρ3.length = ρ.length then .ok (.ret (.dat d) (onlyE x Q 0 (frzE ρ fz))) else .bad
            | _ => .bad)
          else .bad
        | _ => .bad)
      | _ => .bad)
    else .bad
  | .loopb i tg b => fun ρ => if tg.slots.any (fun j => decide (j ∈ i :: P)) then .bad else match ρ[i]? with
    | some (.own ds) => outB i ds (loopGo (exec (i :: P) b) tg ds (ρ.set i .no))
    | _ => .bad
  | .ext i e => fun ρ => if ownAt ρ i then bndO (ev cl e ρ) fun v ρ1 => match v.d, ρ1[i]? with
      | .list zs, some (.own ds) => if ds.length + zs.length ≤ big then .ok (.next (ρ1.set i (.own (ds ++ zs)))) else .bad
      | _, _ => .bad
    else .bad
end
end Iv
end

section
set_option Elab.async false
set_option linter.all false
set_option maxRecDepth 100000
set_option maxHeartbeats 4000000
/-! Exceptions of the program's own classes: class X(B): def __init__(self, f): self.f = f. -/
namespace PySem
namespace Ivx
open PySem.W PySem.Calls PyProof.Rows PySem.HandSPX Builtin Builtin.ObjectAttr
/-- the text of __init__ -/
def iA (f : Str) (p1 p2 : Pos) : Arguments := { posonlyargs := [], args := [{ arg := "self", annotation := none, pos := p1 }, { arg := f, annotation := none, pos := p2 }], vararg := none, kwonlyargs := [], kw_defaults := [], kwarg := none, defaults := [] }
def iB (f : Str) (q1 q2 q3 q4 : Pos) : List Stmt := [.Assign [.Attribute (.Name "self" q1) f q2] (.Name f q3) q4]
def iS (f : Str) : Scope := { kind := .function, names := [(PySem.Str.ofString "self", .local), (f, .local)], isGenerator := false, isCoroutine := false, more := [] }
/-- what the written part says of the class nm, at C, and of its __init__, at fI; bmB: its base's own line -/
structure XcT (K : Frag) (mg : Str → Option Value) (nm f : Str) (bmB : List Value) (C fI : Addr) : Prop where
  gC : mg nm = some (.ref C)
  cls : ∃ (B newId initId : String) (q : Str) (N : Addr) (bs : List Value) (sn : List Str) (sub : List Value) (ab : Bool) (col : Option Bool) (dd : Option Addr) (k0 k1 k2 k3 k5 : Option Value), ExcBaseFacts B newId initId bmB ∧ StoreFacts B bmB "object.__setattr__" "object" ∧
    K.lookup C = some (excClassObj nm q C N bs bmB true sn sub ab col dd k0 k1 k2 k3 k5 newId)
  sa : findIn K (.ref C) "__setattr__" = some (some (.builtin "object.__setattr__"))
  ga : findIn K (.ref C) "__getattribute__" = some (some (.builtin "BaseException.__getattribute__"))
  gg : findIn K (.ref C) "__getattr__" = some none
  noN : findIn K (.ref C) f = some none
  iC : findIn K (.ref C) "__init__" = some (some (.ref fI))
  tC : typeIn K (.ref fI) = some (.type "function")
  kC : keepIn K (.ref C) = true
  ca : findIn K (.ref C) "__class__" = some (some (.builtin "object.__class__"))
  fs : (("self" : Str) == f) = false
  fg : (f == ("__debug__" : Str)) = false
  fn : ∃ (oc : Value) (od : Option Addr) (doc pm : Value) (an : Option Addr) (kV cdv ct : Value) (osl : Array (Option Value)) (p1 p2 q1 q2 q3 q4 : Pos) (ql : Str),
    K.lookup fI = some ⟨oc, od, .func (fnOf "__init__" ql (iA f p1 p2) (iB f q1 q2 q3 q4) (iS f) .none kV doc pm an cdv ct), osl⟩ ∧ codeIn K cdv ql = true ∧
    ∀ u v : Value, bindArgs (fnOf "__init__" ql (iA f p1 p2) (iB f q1 q2 q3 q4) (iS f) .none kV doc pm an cdv ct) ⟨[u, v], []⟩ = pure [(("self" : Str), u), (f, v)] ∧
      bindArgs (fnOf "__init__" ql (iA f p1 p2) (iB f q1 q2 q3 q4) (iS f) .none kV doc pm an cdv ct) ⟨[u], [(f, v)]⟩ = pure [(("self" : Str), u), (f, v)]
section
variable {K : Frag} {mg : Str → Option Value} {nm f : Str} {bmB : List Value} {C fI : Addr}
theorem XcT.cd (T : XcT K mg nm f bmB C fI) : ∃ cd, clsIn K C = some cd ∧ cd.name = nm ∧ cd.mro = .ref C :: bmB ∧ cd.hasDict = true := by
  obtain ⟨B, newId, initId, q, N, bs, sn, sub, ab, col, dd, k0, k1, k2, k3, k5, _, _, hC⟩ := T.cls
  exact ⟨{ name := nm, bases := bs, mro := .ref C :: bmB, ns := N, qualname := q, hasDict := true, slotNames := sn, subclasses := sub, abstract := ab, collection := col, hasDel := false }, by unfold clsIn; rw [hC] <;> rfl, rfl, rfl, rfl⟩
theorem XcT.hdC (T : XcT K mg nm f bmB C fI) : hasDictIn K C = true := by
  obtain ⟨cd, h1, _, _, h4⟩ := T.cd
  unfold hasDictIn
  rw [h1]; exact h4
theorem XcT.sub (T : XcT K mg nm f bmB C fI) (v : Value) : subIn K (.ref C) v = some ((Value.ref C :: bmB).contains v) := by
  obtain ⟨cd, h1, _, h3, _⟩ := T.cd
  show mroIn K C v = _
  unfold mroIn
  rw [h1, Option.bind_some, h3]
  rfl
theorem XcT.hasBase (T : XcT K mg nm f bmB C fI) : bmB.contains (.type "BaseException") = true := by
  obtain ⟨B, newId, initId, q, N, bs, sn, sub, ab, col, dd, k0, k1, k2, k3, k5, F, _, _⟩ := T.cls
  exact F.hasBase
theorem XcT.exC (T : XcT K mg nm f bmB C fI) : subIn K (.ref C) (.type "BaseException") = some true := by
  rw [T.sub, List.contains_cons, T.hasBase, Bool.or_true]
theorem XcT.obC (T : XcT K mg nm f bmB C fI) : mroIn K C (.type "object") = some true := by
  obtain ⟨B, newId, initId, q, N, bs, sn, sub, ab, col, dd, k0, k1, k2, k3, k5, _, F, _⟩ := T.cls
  have := T.sub (.type "object")
  rw [List.contains_cons, F.hasOwner, Bool.or_true] at this
  exact this
theorem XcT.tyC (T : XcT K mg nm f bmB C fI) : typeIn K (.ref C) = some (.type "type") := by
  obtain ⟨B, newId, initId, q, N, bs, sn, sub, ab, col, dd, k0, k1, k2, k3, k5, _, _, hC⟩ := T.cls
  show (K.lookup C).map (·.cls) = _
  rw [hC]; rfl
end
theorem one_size (v : Value) : [v].length ≤ sizeLine := by
  rw [sizeLine_eq]
  exact (by decide : 1 ≤ 16777216)
section
variable {prog : Program} {w : World} {A : Around} {E : Value → Shared → Prop} {R : Result → Shared → Prop} {hp : Heap} {g : Array GenState} {d : Drawn} {t : Nat} {os : OsState}
/-- self.name = v on a new exception -/
theorem x_osa {K : W.Frag} {name : Str} {tk : Tok} {v : Value} {x C : Addr} {fv : Array Value} {cd : ClassData} {B : String} {bmB : List Value} (SF : StoreFacts B bmB "object.__setattr__" "object")
    (X : K.In hp) (hx : hp.get? x = some { cls := .ref C, data := .fields fv }) (hcd : W.clsIn K C = some cd) (hm : cd.mro = .ref C :: bmB) (hh : cd.hasDict = true) (ha : W.findIn K (.ref C) name = some none)
    (hq : ∀ h' tk' dx, (∀ b o, b ≠ x → hp.get? b = some o → h'.get? b = some o) → hp.objs.size ≤ dx → dx ≠ x → h'.get? x = some { cls := .ref C, dict := some dx, data := .fields fv } →
      h'.Ns1 dx (fun y => if y = name then some v else none) → R (.ok (.ret .none)) ⟨h', g, d, tk', os⟩) :
    codeAny (model prog w) A (.call (.builtin "object.__setattr__") ⟨[.ref x, .str name tk, v], []⟩) R ⟨hp, g, d, t, os⟩ := by
  have I : W.InstAt hp x { cls := .ref C, data := .fields fv } C none := ⟨hx, rfl, rfl, trivial⟩
  have ne : cd.mro.isEmpty = false := by rw [hm]; rfl
  have hob : cd.mro.contains (.type "object") = true := by rw [hm, List.contains_cons, SF.hasOwner, Bool.or_true]
  have hxs : x ≠ hp.objs.size := Nat.ne_of_lt (Heap.lt_size hx)
  have sub : W.Looks (model prog w) hp (isInstance (.ref x) (.type "object")) true := I.type.andThen (W.looks_mroIn X (by unfold W.mroIn; rw [hcd, Option.bind_some, if_neg (by rw [ne]; decide), hob]))
  refine codeAny_call_builtin SF.slot.plain SF.entry (@W.check_slot (model prog w) _ _ ⟨hp, g, d, t, os⟩ "object.__setattr__" "object" "__setattr__" (.ref x) [.str name tk, v] [] _ SF.kind SF.split sub (SF.args (.ref x) (.str name tk) v) ?_)
  have hmr : W.Looks (model prog w) hp (mroOf (.ref C)) cd.mro := (W.looks_clsIn X hcd).andThen .now
  have L3 : W.Looks (model prog w) hp (storeTaker? none) none := .now
  have hcls : W.Looks (model prog w) hp (classData C) cd := W.looks_clsIn X hcd
  rw [W.osa_eq, refuse_eq]
  refine wpAny_bind (wpAny_bind (I.type.at (wpAny_bind (hmr.at ?_))))
  rw [hm, refuseLoop_ref, SF.passes]
  refine wpAny_pure (wpAny_bind (I.type.at (wpAny_bind ((W.looks_findIn X ha).at (wpAny_bind (L3.at ?_))))))
  show wpAny _ _ (storeInOwnDict (.ref x) (.ref C) (.str name tk) name v false) _ _ _
  obtain ⟨nm, bs, mro, ns, qn, hd, sn, sb, ab, col, del⟩ := cd
  dsimp only at hh
  subst hh
  unfold storeInOwnDict ownDictForStores
  repeat (first | with_reducible refine store_in_new ?_ ?_ | with_reducible refine wpAny_loadPart_at hx ?_ | with_reducible refine hcls.at ?_ | wp_step)
  · exact ⟨_, #[], _, (Heap.get?_update_ne _ _ _ _ hxs.symm).trans (Heap.get?_push_at rfl rfl), rfl, fun e he => absurd he (by simp), fun _ => rfl⟩
  · intro h' tk' hn' hs
    have hx₁ : (hp.push { cls := .type "dict", data := .dict #[] }).get? x = some { cls := .ref C, data := .fields fv } := Heap.get?_push_of_some _ hx
    refine hq h' tk' hp.objs.size (fun b o hb ho => ?_) (Nat.le_refl _) hxs.symm ?_ hn'
    · exact (hs.2 b (Nat.ne_of_lt (Heap.lt_size ho))).trans ((Heap.get?_update_ne _ _ _ _ hb).trans (Heap.get?_push_of_some _ ho))
    · exact (hs.2 x hxs).trans (Heap.get?_update_self _ hx₁ rfl)
end
theorem ldC {M : Model} {s : Shared} {name : Str} {scope : Scope} {L a : Addr} {cd : Value} {m : Str → Option Value} {x : Str} {pos : Pos} {v : Value} {Q : Value → Shared → Prop} {A : Around} {E : Value → Shared → Prop} (hn : s.heap.Ns L m) (hv : m x = some v) (h : Q v s)
    (hk : scope.kind = .function) (hl : (envOfC name scope L a cd).kindOf x = some .local) (hd : (x == ("__debug__" : Str)) = false) :
    wpAny M A (eval (.Name x pos) (envOfC name scope L a cd)) Q E s := wpAny_Name (wpAny_loadName_local hk hl hn hv h) hd
/-- what __init__ leaves of a fresh exception at x -/
structure InitEnd (f : Str) (h h' : Heap) (x C dx t1 : Addr) (v : Value) : Prop where
  keep : ∀ b o, b ≠ x → h.get? b = some o → h'.get? b = some o
  obj : h'.get? x = some { cls := .ref C, dict := some dx, data := .fields #[.ref t1, .none, .none, .none, .bool false, .none] }
  dbig : h.objs.size ≤ dx
  dne : dx ≠ x
  ns : h'.Ns1 dx (fun y => if y = f then some v else none)
/-- a made exception -/
structure OwnMade (f : Str) (h h' : Heap) (e C d : Addr) (v : Value) : Prop where
  keep : ∀ b o, h.get? b = some o → h'.get? b = some o
  new : h.objs.size ≤ e
  obj : ∃ oe vs, h'.get? e = some oe ∧ oe.cls = .ref C ∧ oe.dict = some d ∧ oe.data = .fields vs ∧ vs[1]? = some .none
  dbig : h.objs.size ≤ d
  dne : d ≠ e
  ns : h'.Ns1 d (fun y => if y = f then some v else none)
section
variable {prog : Program} {w : World} {A : Around} {E : Value → Shared → Prop} {R : Result → Shared → Prop} {s : Shared} {K : Frag} {mg : Str → Option Value} {nm f : Str} {bmB : List Value} {C fI : Addr}
theorem look_self (h : (("self" : Str) == f) = false) : (iS f).names.lookup ("self" : Str) = some NameKind.local := rfl
theorem look_f (h : (("self" : Str) == f) = false) : (iS f).names.lookup f = some NameKind.local := by
  have h' : (f == PySem.Str.ofString "self") = false := by
    rw [Bool.eq_false_iff] at h ⊢
    intro z
    exact h (by rw [beq_iff_eq] at z ⊢; exact z.symm)
  show (match f == PySem.Str.ofString "self" with | true => some NameKind.local | false => (match f == f with | true => some NameKind.local | false => none)) = some NameKind.local
  rw [h', beq_self_eq_true]
theorem x_init (T : XcT K mg nm f bmB C fI) {x t0 : Addr} {v : Value} (X : K.In s.heap) (hlim : s.heap.NoLimit) (hx : s.heap.get? x = some (excO C t0)) (hnx : K.lookup x = none) (hroom : A.depth < recursionLimit)
    (hq : ∀ h' tk dx, InitEnd f s.heap h' x C dx t0 v → R (.ok (.ret .none)) { s with heap := h', toks := tk }) :
    codeAny (model prog w) A (.call (.ref fI) ⟨[.ref x, v], []⟩) R s ∧ codeAny (model prog w) A (.call (.ref fI) ⟨[.ref x], [(f, v)]⟩) R s := by
  obtain ⟨oc, od, doc, pm, an, kV, cdv, ct, osl, p1, p2, q1, q2, q3, q4, ql, ho, hcd, hbi⟩ := T.fn
  obtain ⟨B, newId, initId, q, N, bs, sn, sub, ab, col, dd, k0, k1, k2, k3, k5, FB, SF, hC⟩ := T.cls
  have hcl : clsIn K C = some { name := nm, bases := bs, mro := .ref C :: bmB, ns := N, qualname := q, hasDict := true, slotNames := sn, subclasses := sub, abstract := ab, collection := col, hasDel := false } := by unfold clsIn; rw [hC] <;> rfl
  have l1 := look_self T.fs
  have l2 := look_f T.fs
  have k1' : ∀ (L a : Addr) (cd : Value), (envOfC ql (iS f) L a cd).kindOf "self" = some .local := fun L a cd => l1
  have k2' : ∀ (L a : Addr) (cd : Value), (envOfC ql (iS f) L a cd).kindOf f = some .local := fun L a cd => l2
  suffices main : ∀ args : Args, bindArgs (fnOf "__init__" ql (iA f p1 p2) (iB f q1 q2 q3 q4) (iS f) .none kV doc pm an cdv ct) args = pure [(("self" : Str), .ref x), (f, v)] → codeAny (model prog w) A (.call (.ref fI) args) R s from ⟨main _ (hbi _ _).1, main _ (hbi _ _).2⟩
  intro args hbi'
  refine Att.call_fn (binds := [("self", .ref x), (f, v)]) X hlim ho hcd hroom (BindsTo.of_eq hbi') (by simp [l1, l2]) (fun s₁ IC => ?_) rfl rfl rfl
  obtain ⟨h₁, tk₁, rfl⟩ := IC.toInCall.same
  have k : ∀ b o, s.heap.get? b = some o → h₁.get? b = some o := IC.toInCall.keep
  have hn := IC.toInCall.ns
  have X₁ : K.In h₁ := X.keeps k
  have hx₁ := k _ _ hx
  show wpAny _ _ (execs _ _) _ _ _
  refine wpAny_execs_cons (plainObj_wpAny_Assign_Attribute ?_)
  refine ldC (v := v) hn ?_ (ldC (v := .ref x) hn ?_ ?_ rfl (k1' _ _ _) (by decide)) rfl (k2' _ _ _) T.fg
  · have h' : (f == ("self" : Str)) = false := by
      have h := T.fs
      rw [Bool.eq_false_iff] at h ⊢
      intro z
      exact h (by rw [beq_iff_eq] at z ⊢; exact z.symm)
    simp [bindL, k1', k2', beq_iff_eq]
  · have h := T.fs
    simp [bindL, k1', k2', h]
    try (intro z; rw [z] at h; simp at h)
  refine set_plain X₁ (ox := excO C t0) (od := none) ⟨hx₁, rfl, rfl, trivial⟩ T.sa ?_
  refine x_osa SF X₁ hx₁ hcl rfl rfl T.noN (fun h₃ tk₃ dx k₃ dn dne hx₃ hn₃ => ?_)
  show wpAny _ _ (execs _ _) _ _ _
  have z : s.heap.objs.size < h₁.objs.size := hn.lt
  exact wpAny_execs_nil (hq h₃ tk₃ dx ⟨fun b o hb e => k₃ b o hb (k b o e), hx₃, Nat.le_of_lt (Nat.lt_of_lt_of_le z dn), dne, hn₃⟩)
theorem x_made (T : XcT K mg nm f bmB C fI) {v : Value} (X : K.In s.heap) (hlim : s.heap.NoLimit) (hroom : A.depth + 1 < recursionLimit)
    (hq : ∀ h' tk e d, OwnMade f s.heap h' e C d v → R (.ok (.ret (.ref e))) { s with heap := h', toks := tk }) :
    codeAny (model prog w) A (.call (.ref C) ⟨[v], []⟩) R s := by
  obtain ⟨B, newId, initId, q, N, bs, sn, sub, ab, col, dd, k0, k1, k2, k3, k5, FB, SF, hC⟩ := T.cls
  obtain ⟨hp, g, dr, tk, os⟩ := s
  have k : ∀ b o, hp.get? b = some o → ((hp.push (kdv_tup [v])).push (excO C hp.objs.size)).get? b = some o := fun b o e => Heap.get?_push_of_some _ (Heap.get?_push_of_some _ e)
  have hget : ((hp.push (kdv_tup [v])).push (excO C hp.objs.size)).get? (hp.objs.size + 1) = some (excO C hp.objs.size) := by heap_get
  have hnx : K.lookup (hp.objs.size + 1) = none := by
    cases e : K.lookup (hp.objs.size + 1) with
    | none => rfl
    | some o =>
      have z : hp.get? (hp.objs.size + 1) = some o := X _ _ e
      exact absurd (Nat.lt_of_succ_lt (Heap.lt_size z)) (Nat.lt_irrefl _)
  refine call_own FB (fun _ => rfl) (X _ _ hC) (looks_findIn X T.iC) (fun self => bind_fn X self T.tC) (one_size v) ?_
  refine (x_init (s := ⟨(hp.push (kdv_tup [v])).push (excO C hp.objs.size), g, dr, tk, os⟩) T (X.keeps k) (hlim.keeps k) hget hnx ?_ fun h' tk' dx ⟨k', hx, dn, dne, hns⟩ => ?_).1
  · show A.depth + 1 < recursionLimit
    exact hroom
  · have old : ∀ b o, hp.get? b = some o → h'.get? b = some o := fun b o e => k' b o (Nat.ne_of_lt (Nat.lt_succ_of_lt (Heap.lt_size e))) (k b o e)
    have z : hp.objs.size + 1 + 1 ≤ dx := by
      first
        | (simpa only [Heap.size_push] using dn)
        | exact dn
        | (have q := dn; rw [Heap.size_push, Heap.size_push] at q; exact q)
    exact ⟨rfl, hq h' tk' (hp.objs.size + 1) dx ⟨old, Nat.le_succ _, ⟨_, _, hx, rfl, rfl, rfl, rfl⟩, Nat.le_trans (Nat.le_trans (Nat.le_succ _) (Nat.le_succ _)) z, dne, hns⟩⟩
end
end Ivx
end PySem
end

section
set_option Elab.async false
set_option linter.all false
set_option maxRecDepth 100000
set_option maxHeartbeats 4000000
namespace L2
open PySem PySem.Spec PyProof.Rows
/-! ### an exception that is held as a value -/
/-- at a: an exception of the class cls, its dict at d -/
def exv (cls : Value) (d : Option Addr) (a : Addr) : HO := .ext fun h => ∃ (oe : Obj) (vs : Array Value), h.get? a = some oe ∧ Zc cls d oe ∧ oe.data = .fields vs
theorem exv_ok {P : Program} {w : World} {H : Hp} {h : Heap} {a : Addr} {cls : Value} {d : Option Addr} {oe : Obj} {vs : Array Value} (ha : h.get? a = some oe) (hz : Zc cls d oe) (hd : oe.data = .fields vs) : ObjOk P w H h a (exv cls d a) :=
  ⟨⟨oe, vs, ha, hz, hd⟩, ⟨oe, ha⟩, fun h1 h2 ⟨oe, vs, e, z, dd⟩ k => ⟨oe, vs, k _ e, z, dd⟩⟩
theorem exv_at {P : Program} {w : World} {H : Hp} {h : Heap} {a : Addr} {cls : Value} {d : Option Addr} (hok : HOk P w H h) (e : H a = some (exv cls d a)) : ∃ oe vs, h.get? a = some oe ∧ Zc cls d oe ∧ oe.data = .fields vs := by
  have x : ObjOk P w H h a (.ext fun h => ∃ (oe : Obj) (vs : Array Value), h.get? a = some oe ∧ Zc cls d oe ∧ oe.data = .fields vs) := hok a _ e
  exact x.1
section
variable {X : Cx} {pins : List (Addr × Obj)} {σ : St} {H : Hp} {s : Shared}
/-- an object that nobody told of is told -/
theorem Inv.track {a : Addr} {o : HO} (I : Inv X pins σ H s) (hn : H a = none) (h0 : X.s_0.heap.get? a = none) (np : ∀ p ∈ X.pn ++ pins, p.1 ≠ a) (nL : a ≠ X.env.locals) (nc : ∀ x c, X.env.cells.lookup x = some c → c ≠ a)
    (new : ObjOk X.prog X.w (upd H a o) s.heap a o) : Inv X pins σ (upd H a o) s where
  ok := I.ok
  os := I.os
  bare := I.bare
  base := {
    keep := I.base.keep
    slot := I.base.slot
    free := fun b ob e n hx => by
      have hb : b ≠ a := fun z => by rw [z, h0] at e; cases e
      rw [upd_ne hb]; exact I.base.free b ob e n hx
    there := I.base.there
    tups := fun b xs e => by
      have q := I.base.tups b xs e
      rw [upd_ne (ne_of_none q hn)]; exact q
    frzs := fun b ob u e => by
      have q := I.base.frzs b ob u e
      rw [upd_ne (ne_of_none q hn)]; exact q
    tbls := fun b ps e => by
      obtain ⟨more, q⟩ := I.base.tbls b ps e
      exact ⟨more, by rw [upd_ne (ne_of_none q hn)]; exact q⟩ }
  loc := I.loc
  cell := I.cell
  free := by rw [upd_ne nL.symm]; exact I.free
  freeC := fun x c e => by rw [upd_ne (nc x c e)]; exact I.freeC x c e
  pin := fun p hp => by
    obtain ⟨h1, h2, h3⟩ := I.pin p hp
    exact ⟨h1, by rw [upd_ne (np p hp)]; exact h2, h3⟩
  hok := fun b ob e => by
    by_cases hb : b = a
    · subst hb
      rw [upd_same] at e
      cases e
      exact new
    · rw [upd_ne hb] at e
      refine (I.hok b ob e).stay (fun _ _ _ z => z) (fun c hc => ?_) fun c xs hc => ?_
      · rw [upd_ne (ne_of_none hc hn)]; exact hc
      · rw [upd_ne (ne_of_none hc hn)]; exact hc
  len := I.len
theorem relO_one {f : Str} {v : V} {v' : Value} (r : RelV v v') (g : Str) : RelO (List.lookup g [(f, v)]) (if g = f then some v' else none) := by
  by_cases hw : g = f
  · subst hw
    rw [if_pos rfl]
    have q : List.lookup g [(g, v)] = some v := by simp [List.lookup]
    rw [q]
    exact r
  · rw [if_neg hw]
    have qw : (g == f) = false := by simpa using hw
    have q2 : List.lookup g [(f, v)] = none := by simp [List.lookup, qw]
    rw [q2]
    trivial
variable {nm f : Str} {bmB : List Value} {C fI : Addr}
/-- X(e): raised at once -/
def tMkX (C : Addr) (f : Str) (ta : TA) : St → Hp → XK → Prop := fun σ H Q => ta σ H fun vs H1 => ∃ v, vs = [v] ∧ ∀ d, H1 d = none → Q (.ref C) (some d) (upd H1 d (.xd [(f, v)]))
/-- X(e): a value -/
def tMkV (C : Addr) (f : Str) (ta : TA) : TE := fun σ H Q => ta σ H fun vs H1 => ∃ v, vs = [v] ∧ ∀ d a, H1 d = none → H1 a = none → d ≠ a → Q (.ref a) (upd (upd H1 d (.xd [(f, v)])) a (exv (.ref C) (some d) a))
theorem mk_x {a : Expr} {ta : TA} {p pos : Pos} {k : Nat} {R : Value → Shared → Prop} (T : PySem.Ivx.XcT X.K X.mg nm f bmB C fI) (hr : Room k X.A) (ha : PA X [a] ta) (hg : Gl X nm) (hdb : (nm == ("__debug__" : Str)) = false)
    (he : starEach (a :: []) X.env = (false, eval a X.env) :: starEach [] X.env) (hpl : (backTo pos (starEach [] X.env)).any (·.1) = false) (I : Inv X pins σ H s)
    (h : ta σ H fun vs H1 => ∃ v, vs = [v] ∧ ∀ (s1 : Shared) (h' G : Heap) (tk' : Nat) (e d : Addr) (oe : Obj) (fv : Array Value), Inv X pins σ (upd H1 d (.xd [(f, v)])) { s1 with heap := G, toks := tk' } → (∀ b o, G.get? b = some o → h'.get? b = some o) → G.get? e = none → h'.get? e = some oe →
      Zc (.ref C) (some d) oe → oe.data = .fields fv → fv[1]? = some .none → H1 e = none → H1 d = none → d ≠ e → AllBare s1.gens → R (.ref e) { s1 with heap := h', toks := tk' }) :
    wpAny (model X.prog X.w) X.A (eval (.Call (.Name nm p) [a] [] pos) X.env) R X.xe s := by
  refine wpAny_Call_Name_kw (ld_glob I hg T.gC ?_ hdb)
  refine PySem.W.callWith_K (h₀ := X.base) I.ok.mod.kin T.kC (thn (ha.run pos pins s σ H _ I h) fun us s1 hh => ?_) he hpl
  obtain ⟨vs, H1, I1, r1, v, ev, q1⟩ := hh
  subst ev
  refine ⟨I1.kIn, ?_⟩
  cases r1 with
  | cons rv rn =>
    rename_i v' us'
    cases rn
    show wpAny _ _ (call (.ref C) [v']) _ _ _
    have hlim := I1.nolimit
    obtain ⟨hp, g, dr, tk, os⟩ := s1
    refine wpAny_call (PySem.Ivx.x_made T I1.kIn hlim (by have := hr.dp; omega) fun h' tk' e d M => ?_)
    obtain ⟨oe, fv, hoe, hc, hd, hdat, h1⟩ := M.obj
    have hns := M.ns
    obtain ⟨G', g1, g2⟩ := restrict h' fun b => decide (b ≠ e)
    have gk : ∀ b, b ≠ e → G'.get? b = h'.get? b := fun b hb => g1 b (decide_eq_true hb)
    have ge : G'.get? e = none := g2 e (by simp)
    have old : ∀ b o, hp.get? b = some o → G'.get? b = some o := fun b o q => (gk b (Nat.ne_of_lt (Nat.lt_of_lt_of_le (Heap.lt_size q) M.new))).trans (M.keep b o q)
    have ob : ObjOk X.prog X.w (upd H1 d (.xd [(f, v)])) G' d (.xd [(f, v)]) :=
      ⟨_, hns.at (fun o q => (gk d M.dne).trans q), fun g => relO_one rv g⟩
    have J : Inv X pins σ (upd H1 d (.xd [(f, v)])) ⟨G', g, dr, tk', os⟩ := I1.laid (t' := tk') old M.dbig ob
    refine q1 ⟨hp, g, dr, tk, os⟩ h' G' tk' e d oe fv J (fun b o q => ?_) ge hoe ⟨hc, hd⟩ hdat h1 (I1.hok.fresh M.new) (I1.hok.fresh M.dbig) M.dne I1.bare
    by_cases hb : b = e
    · rw [hb, ge] at q; cases q
    · exact (gk b hb).symm.trans q
theorem pmk_x {a : Expr} {ta : TA} {p pos : Pos} {k : Nat} (T : PySem.Ivx.XcT X.K X.mg nm f bmB C fI) (hr : Room k X.A) (ha : PA X [a] ta) (hmono : ∀ σ H Q Q', (∀ vs H', Q vs H' → Q' vs H') → ta σ H Q → ta σ H Q') (hg : Gl X nm) (hdb : (nm == ("__debug__" : Str)) = false)
    (he : starEach (a :: []) X.env = (false, eval a X.env) :: starEach [] X.env) (hpl : (backTo pos (starEach [] X.env)).any (·.1) = false) :
    PMk X (.Call (.Name nm p) [a] [] pos) (tMkX C f ta) := by
  intro pins s σ H Q I h
  refine mk_x T hr ha hg hdb he hpl I (hmono _ _ _ _ (fun vs H1 ⟨v, ev, q1⟩ => ⟨v, ev, fun s1 h' G tk' e d oe fv J kG ge hoe hz hdat h1 ne nd de ag => ?_⟩) h)
  exact ⟨e, oe, fv, { s1 with heap := G, toks := tk' }, _, .ref C, some d, rfl, J, kG, ge, hoe, hz, hdat, h1, by rw [upd_ne de.symm]; exact ne, rfl, ag, raises_own T.exC T.tyC, q1 d nd⟩
theorem pe_mkx {a : Expr} {ta : TA} {p pos : Pos} {k : Nat} (T : PySem.Ivx.XcT X.K X.mg nm f bmB C fI) (hr : Room k X.A) (ha : PA X [a] ta) (hmono : ∀ σ H Q Q', (∀ vs H', Q vs H' → Q' vs H') → ta σ H Q → ta σ H Q') (hg : Gl X nm) (hdb : (nm == ("__debug__" : Str)) = false)
    (he : starEach (a :: []) X.env = (false, eval a X.env) :: starEach [] X.env) (hpl : (backTo pos (starEach [] X.env)).any (·.1) = false) :
    PE X (.Call (.Name nm p) [a] [] pos) (tMkV C f ta) := by
  refine ⟨fun pins s σ H Q I h => ?_⟩
  refine mk_x T hr ha hg hdb he hpl I (hmono _ _ _ _ (fun vs H1 ⟨v, ev, q1⟩ => ⟨v, ev, fun s1 h' G tk' e d oe fv J kG ge hoe hz hdat h1 ne nd de ag => ?_⟩) h)
  have ne' : upd H1 d (.xd [(f, v)]) e = none := by rw [upd_ne de.symm]; exact ne
  exact ⟨.ref e, _, Inv.laidN (s := { s1 with heap := G, toks := tk' }) (t' := tk') J kG ge ne' (exv_ok hoe hz hdat), rfl, q1 d e nd ne de⟩
/-- e.f, e an exception that is held -/
def tXat (K : PySem.W.Frag) (mg : Str → Option Value) (f : Str) (te : TE) : TE := fun σ H Q => te σ H fun x H1 => ∃ (a C dd : Addr) (fs : List (Str × V)) (v : V) (fI : Addr) (nm : Str) (bmB : List Value), x = .ref a ∧ PySem.Ivx.XcT K mg nm f bmB C fI ∧ H1 a = some (exv (.ref C) (some dd) a) ∧ H1 dd = some (.xd fs) ∧ fs.lookup f = some v ∧ Q v H1
theorem inst_x {H1 : Hp} {a C dd : Addr} {fs : List (Str × V)} (I1 : Inv X pins σ H1 s) (ea : H1 a = some (exv (.ref C) (some dd) a)) (ed : H1 dd = some (.xd fs)) :
    ∃ (oe : Obj) (od : Obj) (mA : Str → Option Value), PySem.W.InstAt s.heap a oe C (some od) ∧ s.heap.get? dd = some od ∧ (∀ f, PySem.W.lookIn f od = some (mA f)) ∧ ∀ f, RelO (fs.lookup f) (mA f) := by
  obtain ⟨oe, vs, ha, hz, hd⟩ := exv_at I1.hok ea
  have hx : ObjOk X.prog X.w H1 s.heap dd (.xd fs) := I1.hok dd _ ed
  obtain ⟨mA, hns, hr⟩ := hx
  obtain ⟨od, ho, hl⟩ := lookIn_ns hns
  exact ⟨oe, od, mA, ⟨ha, hz.1, by unfold PySem.W.notCls; rw [hd] <;> rfl, by rw [hz.2]; exact ho⟩, ho, hl, hr⟩
theorem pe_xat {e : Expr} {te : TE} {pos : Pos} {n : Str} (he : PE X e te) (hb : attributeBase e n X.env (eval e X.env) = eval e X.env) :
    PE X (.Attribute e n pos) (tXat X.K X.mg n te) := by
  refine ⟨fun pins s σ H Q I h => ?_⟩
  refine attr_of hb (thn (he.run pins s σ H _ I h) fun u s1 hh => ?_)
  obtain ⟨x, H1, I1, rx, a, C, dd, fs, v, fI, nm, bmB, ex, T, ea, ed, l, q⟩ := hh
  subst ex
  obtain rfl : u = Value.ref a := rx
  obtain ⟨oe, od, mA, J, ho, hl, hr⟩ := inst_x I1 ea ed
  obtain ⟨u, hu, ru⟩ := RelO.some_of (v := v) (o := mA n) (by rw [← l]; exact hr n)
  exact HandSPX.exc_get I1.kIn J T.ga T.gg T.exC (PySem.W.findObj_own T.hdC T.noN rfl (by rw [hl, hu])) (handed_of ru) ⟨v, H1, I1.tok _, ru, q⟩
/-- isinstance(e, c), isinstance(e, (c, ..)) -/
theorem gs_get (K : PySem.W.Frag) : PySem.W.specialIn K (.builtin "object.__class__") "__get__" = some (some (.builtin "getset_descriptor.__get__")) := by
  first | rfl | kernel_rfl
theorem gs_takes (K : PySem.W.Frag) : PySem.W.takesIn K (.builtin "object.__class__") = some true := by
  first | rfl | kernel_rfl
def rIsX (K : PySem.W.Frag) (mg : Str → Option Value) : List V → Hp → VK → Prop := fun xs H Q => ∃ (a C dd : Addr) (fs : List (Str × V)) (f : Str) (fI : Addr) (nm : Str) (bmB : List Value) (c : V) (cv : Value) (b : Bool), xs = [.ref a, c] ∧ PySem.Ivx.XcT K mg nm f bmB C fI ∧ H a = some (exv (.ref C) (some dd) a) ∧ H dd = some (.xd fs) ∧
  (∀ u, RelV c u → u = cv) ∧ PySem.W.kitOne K (.ref C) cv = some b ∧ Q (.bl b) H
theorem call_isX : CallR X (.builtin "isinstance") (rIsX X.K X.mg) := by
  intro pins s σ H xs us Q I r h
  obtain ⟨a, C, dd, fs, f, fI, nm, bmB, c, cv, b, rfl, T, ea, ed, hcv, e, q⟩ := h
  cases r with
  | cons rx rr =>
    cases rr with
    | cons rt rr =>
      cases rr
      cases rx
      have ec := hcv _ rt
      subst ec
      obtain ⟨oe, od, mA, J, _⟩ := inst_x I ea ed
      obtain ⟨cd, hcd, _⟩ := T.cd
      exact PySem.W.kia_one (PySem.W.kitx_exc (by rw [hcd]; rfl) T.ga T.gg T.exC T.ca (gs_get _) (gs_takes _) T.obC) I.kIn J e (fun z => nomatch z) fun tk => ⟨.bl b, H, I.kept (t' := tk) fun _ _ z => z, rfl, q⟩
def rIsXT (K : PySem.W.Frag) (mg : Str → Option Value) : List V → Hp → VK → Prop := fun xs H Q => ∃ (a C dd q : Addr) (fs : List (Str × V)) (f : Str) (fI : Addr) (nm : Str) (bmB : List Value) (cs : List V) (cvs : List Value) (b : Bool), xs = [.ref a, .ref q] ∧ PySem.Ivx.XcT K mg nm f bmB C fI ∧ H a = some (exv (.ref C) (some dd) a) ∧ H dd = some (.xd fs) ∧
  H q = some (.tup cs) ∧ Paired ClsV cs cvs ∧ PySem.W.kitAny K (.ref C) cvs = some b ∧ Q (.bl b) H
theorem call_isXT : CallR X (.builtin "isinstance") (rIsXT X.K X.mg) := by
  intro pins s σ H xs us Q I r h
  obtain ⟨a, C, dd, tp, fs, f, fI, nm, bmB, cs, cvs, b, rfl, T, ea, ed, hT, k, e, q⟩ := h
  cases r with
  | cons rx rr =>
    cases rr with
    | cons rt rr =>
      cases rr
      cases rx
      cases rt
      obtain ⟨oe, od, mA, J, _⟩ := inst_x I ea ed
      obtain ⟨cd, hcd, _⟩ := T.cd
      obtain ⟨_, its, rv, o, h1, h2, n, h3⟩ := (show ObjOk X.prog X.w H s.heap tp (.tup cs) from I.hok tp _ hT)
      have e3 := ClsV.all k rv
      subst e3
      obtain ⟨oc, od', dt, sl⟩ := o
      simp only at h2 h3
      subst h2 h3
      exact PySem.W.kia_tup (PySem.W.kitx_exc (by rw [hcd]; rfl) T.ga T.gg T.exC T.ca (gs_get _) (gs_takes _) T.obC) I.kIn J h1 e (fun z => nomatch z) fun tk => ⟨.bl b, H, I.kept (t' := tk) fun _ _ z => z, rfl, q⟩
end
/-! ### the classes that an except clause names -/
theorem looks_for1 {M : Model} {h : Heap} {F : Value → PUnit → Sem (ForInStep PUnit)} : ∀ (cs : List Value), (∀ c ∈ cs, PySem.W.Looks M h (F c ⟨⟩) (.yield ⟨⟩)) → PySem.W.Looks M h (forIn cs PUnit.unit F) PUnit.unit
  | [], _ => by rw [List.forIn_nil]; exact .now
  | c :: r, hf => by
    rw [List.forIn_cons]
    exact (hf c List.mem_cons_self).andThen (looks_for1 r fun d hd => hf d (List.mem_cons_of_mem _ hd))
theorem looks_for2 {M : Model} {h : Heap} {G : Value → Option Bool × Unit → Sem (ForInStep (Option Bool × Unit))} {p : Value → Bool} : ∀ (cs : List Value), (∀ c ∈ cs, PySem.W.Looks M h (G c (none, ())) (if p c = true then .done (some true, ()) else .yield (none, ()))) →
    PySem.W.Looks M h (forIn cs ((none, ()) : Option Bool × Unit) G) (if cs.any p = true then (some true, ()) else (none, ()))
  | [], _ => by rw [List.forIn_nil]; exact .now
  | c :: r, hf => by
    rw [List.forIn_cons]
    refine (hf c List.mem_cons_self).andThen ?_
    cases hp : p c with
    | true =>
      rw [List.any_cons, hp]
      exact .now
    | false =>
      rw [List.any_cons, hp, Bool.false_or]
      exact looks_for2 r fun d hd => hf d (List.mem_cons_of_mem _ hd)
theorem exmAny_all {M : Model} {K : PySem.W.Frag} {cls : Value} {h : Heap} (X : K.In h) : ∀ (cs : List Value) (b : Bool), PySem.W.exmAny K cls cs = some b → ∃ p : Value → Bool, cs.any p = b ∧ ∀ c ∈ cs, PySem.W.Looks M h (isExcClass c) true ∧ PySem.W.Looks M h (isSubtype cls c) (p c)
  | [], b, hx => by
    have e : some false = some b := hx
    cases e
    exact ⟨fun _ => false, rfl, fun c hc => by cases hc⟩
  | c :: r, b, hx => by
    obtain ⟨b1, d1, x1, y1, z⟩ := PySem.W.exmAny_cons hx
    obtain ⟨e1, s1⟩ := PySem.W.exm_cls (M := M) X x1
    obtain ⟨p, hp, ha⟩ := exmAny_all (M := M) X r d1 y1
    -- the answer of a class is one
    let p' : Value → Bool := fun v => match PySem.W.exmOne K cls v with | some b => b | none => false
    have hp' : ∀ (cs : List Value) (b : Bool), PySem.W.exmAny K cls cs = some b → cs.any p' = b ∧ ∀ c ∈ cs, PySem.W.Looks M h (isExcClass c) true ∧ PySem.W.Looks M h (isSubtype cls c) (p' c) := by
      intro cs
      induction cs with
      | nil => intro b hx; have e : some false = some b := hx; cases e; exact ⟨rfl, fun c hc => by cases hc⟩
      | cons c r ih =>
        intro b hx
        obtain ⟨b1, d1, x1, y1, z⟩ := PySem.W.exmAny_cons hx
        obtain ⟨e1, s1⟩ := PySem.W.exm_cls (M := M) X x1
        obtain ⟨i1, i2⟩ := ih d1 y1
        have e : p' c = b1 := by show (match PySem.W.exmOne K cls c with | some b => b | none => false) = b1; rw [x1]
        refine ⟨by rw [List.any_cons, i1, e, z], fun v hv => ?_⟩
        rcases List.mem_cons.mp hv with rfl | hv
        · rw [e]; exact ⟨e1, s1⟩
        · exact i2 v hv
    obtain ⟨q1, q2⟩ := hp' (c :: r) b hx
    exact ⟨p', q1, q2⟩
theorem exm_list {M : Model} {K : PySem.W.Frag} {cls : Value} {tp e : Addr} {cs : List Value} {b : Bool} {h : Heap} (X : K.In h) (LT : PySem.W.Looks M h (typeOf (.ref e)) cls) (hp : h.get? tp = some { cls := .type "tuple", data := .seq cs.toArray }) (hx : PySem.W.exmAny K cls cs = some b) :
    PySem.W.Looks M h (excMatches (.ref e) (.ref tp)) b := by
  obtain ⟨p, hb, ha⟩ := exmAny_all (M := M) X cs b hx
  have LT0 : PySem.W.Looks M h (isInstance (.ref tp) (.type "tuple")) true := ((PySem.W.Looks.ld hp).andThen .now).andThen (PySem.W.Looks.of_pure isSubtype_tuple_tuple)
  intro A Q E s k₀ q
  obtain ⟨hh, g, d, tk, os⟩ := s
  have k : ∀ b o, h.get? b = some o → hh.get? b = some o := k₀
  have hp' := k _ _ hp
  unfold excMatches
  refine wpAny_bind ((LT0.keeps k).at ?_)
  dsimp only
  rw [if_pos rfl]
  first
    | refine wpAny_bind (wpAny_seqItems hp' rfl ?_)
    | refine wpAny_bind (wpAny_bind (wpAny_seqItems hp' rfl (wpAny_pure ?_)))
  dsimp only [Option.getD_some, Option.getD]
  refine wpAny_bind (wpAny_pure ?_)
  refine wpAny_bind ((looks_for1 (M := M) (h := hh) cs fun c hc => ?_).at ?_)
  · exact ((ha c hc).1.keeps k).andThen .now
  refine wpAny_bind ((LT.keeps k).at ?_)
  refine wpAny_bind ((looks_for2 (M := M) (h := hh) (p := p) cs fun c hc => ?_).at ?_)
  · refine ((ha c hc).2.keeps k).andThen ?_
    cases p c with
    | true => exact .now
    | false => exact .now
  rw [hb]
  cases b with
  | true => exact wpAny_pure q
  | false => exact wpAny_pure q
/-- names of classes, own or built in -/
inductive NamesL (X : Cx) : List Expr → List Value → Prop
  | nil : NamesL X [] []
  | cons {x : Str} {np : Pos} {c : Value} {es : List Expr} {cs : List Value} (hc : Names X x c) (h : NamesL X es cs) : NamesL X (.Name x np :: es) (c :: cs)
inductive ClsE (X : Cx) : Expr → List Value → Prop
  | one {x : Str} {np : Pos} {c : Value} (hc : Names X x c) : ClsE X (.Name x np) [c]
  | tup {es : List Expr} {k : Nat} {np : Pos} {cs : List Value} (h : NamesL X es cs) (hl : cs.length ≤ 1000) : ClsE X (.Tuple es k np) cs
section
variable {X : Cx} {pins : List (Addr × Obj)} {σ : St} {H : Hp} {s : Shared}
theorem name_ev {A : Around} {x : Str} {np : Pos} {c : Value} {Q : Value → Shared → Prop} {E : Value → Shared → Prop} (hA : A = X.A) (hc : Names X x c) (I : Inv X pins σ H s) (q : Q c s) : wpAny (model X.prog X.w) A (eval (.Name x np) X.env) Q E s := by
  subst hA
  obtain ⟨hg, hdbg, hm | ⟨hm, hv, hnn⟩⟩ := hc
  · exact ld_glob I hg hm q hdbg
  · exact ld_blt I hg hm hv q hnn hdbg
theorem names_ev {pos : Pos} {es : List Expr} {cs : List Value} (h : NamesL X es cs) (I : Inv X pins σ H s) : ∀ {Q : List Value → Shared → Prop} {E : Value → Shared → Prop}, Q cs s → wpAny (model X.prog X.w) X.A (spliced (backTo pos (starEach es X.env))) Q E s := by
  induction h with
  | nil => intro Q E q; exact Calls.spliced_nil q
  | cons hc _ ih =>
    intro Q E q
    refine Calls.spliced_cons (name_ev rfl hc I ?_)
    exact ih q
theorem clsE_ev {tyE : Expr} {cs : List Value} {cls : Value} {e : Addr} {b : Bool} {Q : Value → Shared → Prop} {E : Value → Shared → Prop} (h : ClsE X tyE cs) (I : Inv X pins σ H s) (LT : PySem.W.Looks (model X.prog X.w) s.heap (typeOf (.ref e)) cls) (hx : PySem.W.exmAny X.K cls cs = some b)
    (q : ∀ c h', (∀ b o, s.heap.get? b = some o → h'.get? b = some o) → PySem.W.Looks (model X.prog X.w) h' (excMatches (.ref e) c) b → Q c { s with heap := h' }) : wpAny (model X.prog X.w) X.A (eval tyE X.env) Q E s := by
  cases h with
  | one hc =>
    obtain ⟨b1, d1, x1, y1, z⟩ := PySem.W.exmAny_cons hx
    have y1 : some false = some d1 := y1
    cases y1
    rw [Bool.or_false] at z
    subst z
    exact name_ev rfl hc I (q _ s.heap (fun _ _ z => z) (PySem.W.exm_one I.kIn LT x1))
  | tup hn hl =>
    refine wpAny_Tuple_spliced (names_ev hn I ⟨by rw [sizeLine_eq]; omega, ?_⟩)
    have kp : ∀ b o, s.heap.get? b = some o → (s.heap.push { cls := .type "tuple", data := .seq cs.toArray }).get? b = some o := fun b o z => Heap.get?_push_of_some _ z
    exact q _ _ kp (exm_list (I.kIn.keeps kp) (LT.keeps kp) (Heap.get?_push_size _ rfl) hx)
end
end L2
end

section
set_option Elab.async false
set_option linter.all false
set_option maxRecDepth 100000
set_option maxHeartbeats 4000000
namespace L2
open PySem PySem.Spec PyProof.Rows
theorem flying_keeps {B : Heap} {l : List Env} {a : Addr} {Z : Obj → Prop} {h h' : Heap} (f : HandSPX.FlyingZ B l a Z h) (k : ∀ b o, h.get? b = some o → h'.get? b = some o) : HandSPX.FlyingZ B l a Z h' := by
  obtain ⟨f1, f2, f3, oe, vs, T, oT, ts, e1, e2, e3, e4, e5, e6, e7, e8, e9⟩ := f
  exact ⟨fun b o e => k _ _ (f1 b o e), f2, Heap.FunFrames.of_keeps (fun b o e _ => ⟨o, k b o e, rfl⟩) f3, oe, vs, T, oT, ts, k _ _ e1, e2, e3, e4, e5, e6, k _ _ e7, e8, e9⟩
theorem upTo_keeps {h h' : Heap} (k : ∀ b o, h.get? b = some o → h'.get? b = some o) : h.UpToSlots h' := fun b o e _ => ⟨o.slots, k b o e⟩
/-- what 'except (..) as n: y = n' wishes of an exception of the body: slot i is n's, slot j is y's -/
def wKeep (K : PySem.W.Frag) (cs : List Value) (i j : Nat) (Wout : WX) (D : Ends) : WX := fun cls d σ H =>
  ∃ b, PySem.W.exmAny K cls cs = some b ∧ (b = true → ∀ a, H a = none → D.nx (((σ.set i (some (.ref a))).set j (some (.ref a))).set i none) (upd H a (exv cls d a))) ∧ (b = false → Wout cls d σ H)
/-- what 'except (..): suite' wishes -/
def wDo (K : PySem.W.Frag) (cs : List Value) (ts : TS) (Wout : WX) (D : Ends) : WX := fun cls d σ H =>
  ∃ b, PySem.W.exmAny K cls cs = some b ∧ (b = true → ∀ a, H a = none → ts D σ H) ∧ (b = false → Wout cls d σ H)
section
variable {X : Cx} {n : Str} {cs : List Value} {i j : Nat} {body suite : List Stmt} {b₀ : Stmt} {tyE : Expr} {pos pos' : Pos} {tb : WX → TS} {Wout : WX}
theorem clsE_suite {a : Addr} {pn : List (Addr × Obj)} (h : ClsE X tyE cs) : ClsE (X.suite a pn) tyE cs := by
  cases h with
  | one hc => exact .one hc
  | tup hn hl =>
    refine .tup ?_ hl
    clear hl
    induction hn with
    | nil => exact .nil
    | cons hc _ ih => exact .cons hc ih
theorem ps_try_keep (hs : X.stack = X.env :: X.outer) (hf : X.env.frame = some X.env.locals) (hex : X.ex = []) (hN : X.N.Nodup) (hi : X.N[i]? = some n) (hln : X.env.kindOf n = some .local) (hij : i ≠ j) (hc : ClsE X tyE cs) (tk : Takes X Wout)
    (hb : ∀ (W : WX) (pn : List (Addr × Obj)) (xe : Value → Shared → Prop), Takes (X.tr pn xe) W → PassesOwn (model X.prog X.w) X.A X.env xe → PSs (X.tr pn xe) body (tb W))
    (hsu : ∀ (a : Addr) (oe : Obj) (pn : List (Addr × Obj)), PSs (X.suite a ((a, oe) :: pn)) (b₀ :: suite) (tAsg (tVar i) (gName j))) :
    PS X (.Try body [.ExceptHandler (some tyE) (some n) (b₀ :: suite) pos'] [] [] pos) (fun D σ H => tb (wKeep X.K cs i j Wout D) D σ H) := by
  refine ⟨fun pins s σ H D I h => ?_⟩
  have ok := I.ok
  have hfr : X.A.frames = some (X.env :: X.outer) := by rw [ok.frames, hs]
  have hloc : Loc X.env.scope n := .inl hln
  refine wpAny_Try_except ?_
  refine wpAny_mono ((hb (wKeep X.K cs i j Wout D) (X.pn ++ pins) (fun e s₁ => wpAny (model X.prog X.w) X.A (noteFrame e X.env) (fun _ s₂ => wpAny (model X.prog X.w) X.A (setFlight e none) (fun _ s₃ =>
    wpAny (model X.prog X.w) X.A (handleBy e X.env [.ExceptHandler (some tyE) (some n) (b₀ :: suite) pos']) (SP X pins D) X.xe s₃) X.xe s₂) X.xe s₁) (fun u s' xx => ?_) PassesOwn.looking).run [] s σ H D (I.toTry _) h) (fun f s1 hsp => ?_) (fun e s1 he => he)
  · -- the catch
    obtain ⟨a, B, sI, pins', σ', H', cls, d, rfl, J', nb, up, sky, na, os, ag, b, hb1, hyes, hno⟩ := xx
    have J : Inv X pins σ' H' sI := J'.ofTry ok
    have sky' : Sky B (X.env :: X.outer) a (Zc cls d) X.env.locals s'.heap := by rw [← hs]; exact sky
    show wpAny (model X.prog X.w) X.A (noteFrame (.ref a) X.env) _ _ _
    refine Sky.land Zc.steady hfr hf sky' fun h3 fl3 up3 => ?_
    have J3 : Inv X pins σ' H' { s' with heap := h3 } := J.landed nb fl3.1 (up.trans up3) os ag
    obtain ⟨oe3, vs3, he3, hz3, hd3⟩ := fl3.there
    have notFr : ∀ {h : Heap} {o : Obj} {vs : Array Value}, h.FunFrames B (X.env :: X.outer) → h.get? a = some o → o.data = .fields vs → a ∉ frs (X.env :: X.outer) := fun {h o vs} ff e dd hm => by
      obtain ⟨_, o', e', hnf⟩ := ff.mem hm
      rw [e] at e'; cases e'
      exact hnf _ dd
    have nfr := notFr fl3.2.2.1 he3 hd3
    have nL : a ≠ X.env.locals := fun z => nfr (List.mem_filterMap.mpr ⟨X.env, List.mem_cons_self, by rw [hf, z]⟩)
    have nF : a ∉ X.fs := fun hm => by
      obtain ⟨e, he, q⟩ := List.mem_filterMap.mp hm
      exact nfr (List.mem_filterMap.mpr ⟨e, List.mem_cons_of_mem _ he, q⟩)
    -- the exception is none of the things of sI
    have sIa : sI.heap.get? a = none := by
      cases e : sI.heap.get? a with
      | none => rfl
      | some o =>
        have q := nb a o e (by rw [hs]; exact nfr)
        rw [fl3.2.1] at q; cases q
    have h0 : X.s_0.heap.get? a = none := by
      cases e : X.s_0.heap.get? a with
      | none => rfl
      | some o =>
        obtain ⟨o', q⟩ := J.base.there a o e (by rw [hex]; simp)
        rw [sIa] at q; cases q
    have np : ∀ p ∈ X.pn ++ pins, p.1 ≠ a := fun p hp z => by
      have q := (J.pin p hp).1
      rw [z, sIa] at q; cases q
    have nc : ∀ x c, X.env.cells.lookup x = some c → c ≠ a := fun x c e z => by
      obtain ⟨v, q⟩ := J.cell x c e
      obtain ⟨o, q1, _⟩ := q
      rw [z, sIa] at q1; cases q1
    have S3 := J3.suite he3 hd3 na nL nF
    refine wpAny_handleBy_cons (codeAny_handlers_test ?_) (by intro q; cases q)
    have LT : PySem.W.Looks (model X.prog X.w) h3 (typeOf (.ref a)) cls := fun A Q E s k q => wpAny_typeOf_ref (k _ _ he3) (by rw [hz3.1]; exact q)
    refine clsE_ev (X := X.suite a ((a, oe3) :: (X.pn ++ pins))) (clsE_suite hc) S3 LT hb1 fun c hT kT LM => LM.here ?_
    have kT : ∀ b o, h3.get? b = some o → hT.get? b = some o := kT
    have flT := flying_keeps fl3 kT
    have upT := (up.trans up3).trans (upTo_keeps kT)
    cases b with
    | true =>
      refine codeAny_handlers_suite_as ?_
      refine HandSPX.lands_againZ flT fun h4 fl4 up4 => ?_
      have J4 : Inv X pins σ' H' { s' with heap := h4 } := J.landed nb fl4.1 (upT.trans up4) os ag
      obtain ⟨oe4, vs4, he4, hz4, hd4⟩ := fl4.there
      have S4 := J4.suite he4 hd4 na nL nF
      refine store_ok (X := X.suite a ((a, oe4) :: (X.pn ++ pins))) (v := .ref a) S4 hN hi hloc rfl (fun s5 S5 => ?_) (.inr hln)
      have hlt : i < σ'.length := by rw [J.len]; exact (List.getElem?_eq_some_iff.mp hi).1
      refine wpAny_mono ((hsu a oe4 (X.pn ++ pins)).run [] s5 _ H' { nx := fun σ6 H6 => σ6 = (σ'.set i (some (.ref a))).set j (some (.ref a)) ∧ H6 = H', rt := fun _ _ => False, bk := fun _ _ => False, ct := fun _ _ => False } S5 ⟨.ref a, List.getElem?_set_self hlt, rfl, rfl⟩) (fun f s6 hsp => ?_) (fun _ _ z => False.elim z)
      cases f with
      | next =>
        obtain ⟨σ6, H6, S6, rfl, rfl⟩ := hsp
        have U := S6.unsuite ok
        obtain ⟨ga, _⟩ := S6.pin (a, oe4) (List.mem_append_left _ List.mem_cons_self)
        have V := U.track (o := exv cls d a) na h0 np nL nc (exv_ok ga hz4 hd4)
        exact gone_ok V hN hi hln fun s7 J7 => ⟨_, _, J7, hyes rfl a na⟩
      | brk => obtain ⟨_, _, _, z⟩ := hsp; exact z.elim
      | cont => obtain ⟨_, _, _, z⟩ := hsp; exact z.elim
      | ret u => obtain ⟨_, _, _, _, _, z⟩ := hsp; exact z.elim
    | false =>
      show wpAny _ X.A (handleBy (.ref a) X.env []) _ _ _
      refine wpAny_handleBy_nil ?_
      obtain ⟨k1, k2, k3, oe, vs, T, oT, ts', he, hz, hd, h1, hr⟩ := id flT
      unfold PySem.passOn
      refine wpAny_bind (wpAny_field he hd h1 ?_)
      rw [if_neg (show ¬ ((Value.ref T == Value.none) = true) from by simp)]
      have fin : wpAny (model X.prog X.w) X.A (setFlight (.ref a) X.env.frame) (fun _ s4 => wpAny (model X.prog X.w) X.A (throw (.ref a) : Sem Flow) (SP X pins D) X.xe s4) X.xe { s' with heap := hT } := by
        rw [hf]
        refine HandSPX.setFlight_upZ flT fun h4 hh4 up4 => wpAny_throw (tk _ _ ?_)
        exact ⟨a, B, sI, pins, σ', H', cls, d, rfl, J, nb, upT.trans up4, .inr (.inr (by rw [hs]; exact hh4)), na, os, ag, hno rfl⟩
      first
        | exact wpAny_bind (wpAny_pure (wpAny_bind fin))
        | exact wpAny_bind fin
  · cases f with
    | next =>
      obtain ⟨σ', H', J', q⟩ := hsp
      exact wpAny_execs_nil ⟨σ', H', J'.ofTry ok, q⟩
    | brk =>
      obtain ⟨σ', H', J', q⟩ := hsp
      exact ⟨σ', H', J'.ofTry ok, q⟩
    | cont =>
      obtain ⟨σ', H', J', q⟩ := hsp
      exact ⟨σ', H', J'.ofTry ok, q⟩
    | ret u =>
      obtain ⟨v, σ', H', J', r, q⟩ := hsp
      exact ⟨v, σ', H', J'.ofTry ok, r, q⟩
end
end L2
end

section
set_option Elab.async false
set_option linter.all false
set_option maxRecDepth 100000
set_option maxHeartbeats 4000000
namespace PySem
namespace Ivx
open PySem.W PySem.Calls PyProof.Rows PySem.HandSPX Builtin Builtin.ObjectAttr
/-! ### X(f = e): an own exception made by its keyword -/
section
variable {M : Model} {A : Around} {E : Value → Shared → Prop} {h : Heap} {g : Array GenState} {d : Drawn} {t : Nat} {os : OsState}
variable {nm q : Str} {C N : Addr} {bs bm bmB : List Value} {hdct : Bool} {sn : List Str} {sub : List Value} {ab : Bool} {col : Option Bool} {dd : Option Addr} {k0 k1 k2 k3 k5 : Option Value} {B newId initId : String}
theorem check_new_ownK (F : ExcBaseFacts B newId initId bmB) (hT : ∀ X : String, bm.contains (.type X) = bmB.contains (.type X)) {rest : List Value} {kw : List (Str × Value)} {Q : Unit → Shared → Prop}
    (hC : h.get? C = some (excClassObj nm q C N bs bm hdct sn sub ab col dd k0 k1 k2 k3 k5 newId)) (hq : Q () ⟨h, g, d, t, os⟩) : wpAny M A (checkBuiltinCall newId ⟨.ref C :: rest, kw⟩) Q E ⟨h, g, d, t, os⟩ := by
  have hcont : (Value.ref C :: bm).contains (.type B) = true := by rw [List.contains_cons, hT, F.hasB, Bool.or_true]
  have hstar := F.noStar
  simp only [checkBuiltinCall, F.newKind, F.newSplit, F.newRow]
  repeat (first | refine wpAny_loadPart_at hC ?_ | (refine wpAny_isSubtype_exc hC ?_; rw [hcont]) | refine wpAny_staticBase_exc hC ?_ | refine wpAny_madeBy_exc hC ?_ | simp only [bne_self_eq_false, Bool.false_eq_true, if_false] | wp_step)
  exact hq
end
section
variable {prog : Program} {w : World} {A : Around} {E : Value → Shared → Prop} {R : Result → Shared → Prop} {h : Heap} {g : Array GenState} {d : Drawn} {t : Nat} {os : OsState}
variable {nm q : Str} {C N : Addr} {bs bm bmB : List Value} {hdct : Bool} {sn : List Str} {sub : List Value} {ab : Bool} {col : Option Bool} {dd : Option Addr} {k0 k1 k2 k3 k5 : Option Value} {B newId initId : String}
theorem new_ownK (F : ExcBaseFacts B newId initId bmB) (hT : ∀ X : String, bm.contains (.type X) = bmB.contains (.type X)) {rest : List Value} {kw : List (Str × Value)}
    (hC : h.get? C = some (excClassObj nm q C N bs bm hdct sn sub ab col dd k0 k1 k2 k3 k5 newId))
    (hq : R (.ok (.ret (.ref (h.objs.size + 1)))) ⟨(h.push { cls := .type "tuple", data := .seq rest.toArray }).push
      { cls := .ref C, data := .fields #[.ref h.objs.size, .none, .none, .none, .bool false, .none] }, g, d, t, os⟩) (hrest : rest.length ≤ sizeLine) :
    codeAny (model prog w) A (.builtin newId ⟨.ref C :: rest, kw⟩) R ⟨h, g, d, t, os⟩ := by
  have hends := F.ends
  have hcB : (Value.ref C :: bm).contains (.type B) = true := by rw [List.contains_cons, hT, F.hasB, Bool.or_true]
  have hcA : (Value.ref C :: bm).contains (.type "AttributeError") = false := by rw [List.contains_cons, hT, F.noAttr]; rfl
  have hcN : (Value.ref C :: bm).contains (.type "NameError") = false := by rw [List.contains_cons, hT, F.noName]; rfl
  refine codeAny_builtinAt F.entry ?_
  unfold Builtin.«BaseException.__new__»
  refine wpAt_bind ?_
  show wpAt _ _ _ (stack >>= _) _ _ _
  refine wpAt_bind (wpAt_stack fun p below => wpAt_of_wpAny ?_)
  wp_walk
  refine wpAt_of_wpAny ?_
  rw [F.owner]
  repeat (first | with_reducible refine wpAny_madeHere_exc F.canon hC ?_ | with_reducible refine wpAny_loadPart_at hC ?_ | (with_reducible refine wpAny_isSubtype_exc hC ?_; first | rw [hcB] | rw [hcA] | rw [hcN]) | wp_step)
  show R _ _
  rw [Heap.size_push]
  exact hq
theorem type_call_ownK (F : ExcBaseFacts B newId initId bmB) (hT : ∀ X : String, bm.contains (.type X) = bmB.contains (.type X)) {rest : List Value} {kw : List (Str × Value)} {fI : Addr} {Q : Fin → Shared → Prop}
    (hC : h.get? C = some (excClassObj nm q C N bs bm hdct sn sub ab col dd k0 k1 k2 k3 k5 newId))
    (hi : W.Looks (model prog w) h (typeLookup (.ref C) "__init__") (some (.ref fI))) (hb : ∀ self, W.Looks (model prog w) h (bindSpecial (.ref fI) self) (.ref fI, [self])) (hrest : rest.length ≤ sizeLine)
    (hq : codeAny (model prog w) A (.call (.ref fI) ⟨.ref (h.objs.size + 1) :: rest, kw⟩)
      (fun r s' => match r with | .ok (.ret v) => v = .none ∧ Q (.done (.ret (.ref (h.objs.size + 1)))) s' | .ok _ => False | .error e => E e s')
      ⟨(h.push (W.kdv_tup rest)).push (excO C h.objs.size), g, d, t, os⟩) :
    wpAny (model prog w) A (Builtin.«type.__call__» ⟨.ref C :: rest, kw⟩) Q E ⟨h, g, d, t, os⟩ := by
  repeat (first | with_reducible refine wpAny_loadPart_at hC ?_ | with_reducible refine wpAny_madeBy_exc hC ?_ | wp_step)
  refine codeAny_call_builtin_code (Code.quiet_builtin _ F.quiet) (check_new_ownK F hT hC ?_)
  refine new_ownK F hT hC ?_ hrest
  show wpAny _ _ _ _ _ _
  have k : ∀ b o, h.get? b = some o → ((h.push (W.kdv_tup rest)).push (excO C h.objs.size)).get? b = some o := fun b o e => Heap.get?_push_of_some _ (Heap.get?_push_of_some _ e)
  have hC₁ := k _ _ hC
  have hget : ((h.push (W.kdv_tup rest)).push (excO C h.objs.size)).get? (h.objs.size + 1) = some (excO C h.objs.size) := by heap_get
  have hcC : (Value.ref C :: bm).contains (.ref C) = true := by simp
  have i1 := hi.keeps k
  have b1 := (hb (.ref (h.objs.size + 1))).keeps k
  unfold isInstance
  repeat (first | with_reducible refine wpAny_loadPart_at hget ?_ | (with_reducible refine wpAny_isSubtype_exc hC₁ ?_; rw [hcC]) | wp_step)
  show wpAny _ _ (typeLookup (.ref C) _) _ _ _
  refine i1.at ?_
  refine wpAny_holding (wpAny_bind (b1.at ?_))
  refine wpAny_bind (wpAny_call (codeAny_mono hq fun r s' z => ?_))
  rcases r with e | (v | _ | _ | _) <;> first | exact z | exact z.elim | skip
  obtain ⟨rfl, z⟩ := z
  first
    | exact wpAny_pure (wpAny_pure z)
    | (wp_walk; exact z)
theorem call_ownK (F : ExcBaseFacts B newId initId bmB) (hT : ∀ X : String, bm.contains (.type X) = bmB.contains (.type X)) {rest : List Value} {kw : List (Str × Value)} {fI : Addr}
    (hC : h.get? C = some (excClassObj nm q C N bs bm hdct sn sub ab col dd k0 k1 k2 k3 k5 newId))
    (hi : W.Looks (model prog w) h (typeLookup (.ref C) "__init__") (some (.ref fI))) (hb : ∀ self, W.Looks (model prog w) h (bindSpecial (.ref fI) self) (.ref fI, [self])) (hrest : rest.length ≤ sizeLine)
    (hq : codeAny (model prog w) (A.under (.builtin "type.__call__" ⟨.ref C :: rest, kw⟩)) (.call (.ref fI) ⟨.ref (h.objs.size + 1) :: rest, kw⟩) (W.InitBack (h.objs.size + 1) R)
      ⟨(h.push (W.kdv_tup rest)).push (excO C h.objs.size), g, d, t, os⟩) :
    codeAny (model prog w) A (.call (.ref C) ⟨rest, kw⟩) R ⟨h, g, d, t, os⟩ := by
  have f1 := tc_lookup
  have f2 := tc_bind (.ref C)
  have hTy : (⟨h, g, d, t, os⟩ : Shared).TypeIs (.ref C) "type" := ⟨_, hC, rfl⟩
  refine codeAny_of_tree ?_
  show wpAny _ _ (callAny (.ref C) _) _ _ _
  repeat (any_goals (first | assumption | with_reducible refine wpAny_loadPart_at hC ?_ | wp_step))
  refine ⟨rfl, ?_⟩
  refine codeAny_call_builtin_at (Code.quiet_builtin _ (by decide +kernel)) entry_typeCall (wpAny_check_type_call_sub hC (type_call_ownK F hT hC hi hb hrest ?_))
  refine codeAny_mono hq fun r s' z => ?_
  rcases r with e | (v | _ | _ | _) <;> exact z
end
section
variable {prog : Program} {w : World} {A : Around} {E : Value → Shared → Prop} {R : Result → Shared → Prop} {s : Shared} {K : Frag} {mg : Str → Option Value} {nm f : Str} {bmB : List Value} {C fI : Addr}
theorem x_madeK (T : XcT K mg nm f bmB C fI) {v : Value} (X : K.In s.heap) (hlim : s.heap.NoLimit) (hroom : A.depth + 1 < recursionLimit)
    (hq : ∀ h' tk e d, OwnMade f s.heap h' e C d v → R (.ok (.ret (.ref e))) { s with heap := h', toks := tk }) :
    codeAny (model prog w) A (.call (.ref C) ⟨[], [(f, v)]⟩) R s := by
  obtain ⟨B, newId, initId, q, N, bs, sn, sub, ab, col, dd, k0, k1, k2, k3, k5, FB, SF, hC⟩ := T.cls
  obtain ⟨hp, g, dr, tk, os⟩ := s
  have k : ∀ b o, hp.get? b = some o → ((hp.push (kdv_tup [])).push (excO C hp.objs.size)).get? b = some o := fun b o e => Heap.get?_push_of_some _ (Heap.get?_push_of_some _ e)
  have hget : ((hp.push (kdv_tup [])).push (excO C hp.objs.size)).get? (hp.objs.size + 1) = some (excO C hp.objs.size) := by heap_get
  have hnx : K.lookup (hp.objs.size + 1) = none := by
    cases e : K.lookup (hp.objs.size + 1) with
    | none => rfl
    | some o =>
      have z : hp.get? (hp.objs.size + 1) = some o := X _ _ e
      exact absurd (Nat.lt_of_succ_lt (Heap.lt_size z)) (Nat.lt_irrefl _)
  refine call_ownK FB (fun _ => rfl) (X _ _ hC) (looks_findIn X T.iC) (fun self => bind_fn X self T.tC) (by rw [sizeLine_eq]; exact Nat.zero_le _) ?_
  refine (x_init (s := ⟨(hp.push (kdv_tup [])).push (excO C hp.objs.size), g, dr, tk, os⟩) T (X.keeps k) (hlim.keeps k) hget hnx ?_ fun h' tk' dx ⟨k', hx, dn, dne, hns⟩ => ?_).2
  · show A.depth + 1 < recursionLimit
    exact hroom
  · have old : ∀ b o, hp.get? b = some o → h'.get? b = some o := fun b o e => k' b o (Nat.ne_of_lt (Nat.lt_succ_of_lt (Heap.lt_size e))) (k b o e)
    have z : hp.objs.size + 1 + 1 ≤ dx := by
      first
        | (simpa only [Heap.size_push] using dn)
        | exact dn
        | (have q := dn; rw [Heap.size_push, Heap.size_push] at q; exact q)
    exact ⟨rfl, hq h' tk' (hp.objs.size + 1) dx ⟨old, Nat.le_succ _, ⟨_, _, hx, rfl, rfl, rfl, rfl⟩, Nat.le_trans (Nat.le_trans (Nat.le_succ _) (Nat.le_succ _)) z, dne, hns⟩⟩
end
end Ivx
end PySem
namespace L2
open PySem PySem.Spec PyProof.Rows
section
variable {X : Cx} {pins : List (Addr × Obj)} {σ : St} {H : Hp} {s : Shared} {nm f : Str} {bmB : List Value} {C fI : Addr}
/-- X(f = e), a value -/
theorem pe_mkxK {a : Expr} {ta : TA} {p pos kpos : Pos} {k : Nat} (T : PySem.Ivx.XcT X.K X.mg nm f bmB C fI) (hr : Room k X.A) (ha : PK X [⟨some f, a, kpos⟩] ta) (hmono : ∀ σ H Q Q', (∀ vs H', Q vs H' → Q' vs H') → ta σ H Q → ta σ H Q') (hg : Gl X nm) (hdb : (nm == ("__debug__" : Str)) = false)
    (hall : (backToKw pos (keywordEach [⟨some f, a, kpos⟩] X.env)).all (·.1.isSome) = true) (hks : (backToKw pos (keywordEach [⟨some f, a, kpos⟩] X.env)).filterMap (·.1) = [f]) (hpl : ((backTo pos (starEach [] X.env)).any (·.1) || (backToKw pos (keywordEach [⟨some f, a, kpos⟩] X.env)).any (·.1.isNone)) = false) :
    PE X (.Call (.Name nm p) [] [⟨some f, a, kpos⟩] pos) (tMkV C f ta) := by
  refine ⟨fun pins s σ H Q I h => ?_⟩
  refine wpAny_Call_Name_kw (ld_glob I hg T.gC ?_ hdb)
  refine PySem.W.callWith_KW0 (h₀ := X.base) I.ok.mod.kin T.kC hall ?_ hpl
  refine thn (ha.run pos pins s σ H _ I h) fun us s1 ⟨vs, H1, I1, r1, v, ev, q1⟩ => ⟨I1.kIn, ?_⟩
  rw [hks]
  subst ev
  obtain ⟨v', rfl, rv⟩ := r1.one
  show wpAny _ _ (call (.ref C) [] [(f, v')]) _ _ _
  have hlim := I1.nolimit
  obtain ⟨hp, g, dr, tk, os⟩ := s1
  refine wpAny_call (PySem.Ivx.x_madeK T I1.kIn hlim (by have := hr.dp; omega) fun h' tk' e d M => ?_)
  obtain ⟨oe, fv, hoe, hc, hd, hdat, h1⟩ := M.obj
  have hns := M.ns
  obtain ⟨G', g1, g2⟩ := restrict h' fun b => decide (b ≠ e)
  have gk : ∀ b, b ≠ e → G'.get? b = h'.get? b := fun b hb => g1 b (decide_eq_true hb)
  have ge : G'.get? e = none := g2 e (by simp)
  have old : ∀ b o, hp.get? b = some o → G'.get? b = some o := fun b o q => (gk b (Nat.ne_of_lt (Nat.lt_of_lt_of_le (Heap.lt_size q) M.new))).trans (M.keep b o q)
  have ob : ObjOk X.prog X.w (upd H1 d (.xd [(f, v)])) G' d (.xd [(f, v)]) :=
    ⟨_, hns.at (fun o q => (gk d M.dne).trans q), fun g => relO_one rv g⟩
  have J : Inv X pins σ (upd H1 d (.xd [(f, v)])) ⟨G', g, dr, tk', os⟩ := I1.laid (t' := tk') old M.dbig ob
  have kG : ∀ b o, G'.get? b = some o → h'.get? b = some o := fun b o q => by
    by_cases hb : b = e
    · rw [hb, ge] at q; cases q
    · exact (gk b hb).symm.trans q
  have ne' : upd H1 d (.xd [(f, v)]) e = none := by rw [upd_ne M.dne.symm]; exact I1.hok.fresh M.new
  exact ⟨.ref e, _, Inv.laidN (s := ⟨G', g, dr, tk', os⟩) (t' := tk') J kG ge ne' (exv_ok hoe ⟨hc, hd⟩ hdat), rfl, q1 d e (I1.hok.fresh M.dbig) (I1.hok.fresh M.new) M.dne⟩
/-- xs.count(y), flat items -/
def rCntF (K : PySem.W.Frag) : V → List V → Hp → VK → Prop := fun x xs H Q => ∃ (a : Addr) (ys : List V) (y : V), x = V.ref a ∧ xs = [y] ∧ SqL K H a ys ∧ flatV y = true ∧ ys.all flatV = true ∧ Q (.int ((ys.countP fun z => eqV z y : Nat) : Int)) H
theorem cnt_vals {y : V} : ∀ {ys : List V} {us : List Value}, Vals ys us → ys.all flatV = true → us.countP (eqU y) = ys.countP fun z => eqV z y
  | _, _, .nil, _ => rfl
  | z :: ys, u :: us, .cons r t, f => by
    rw [List.all_cons, Bool.and_eq_true] at f
    rw [List.countP_cons, List.countP_cons, cnt_vals t f.2, eqU_of r f.1]
theorem mt_cntF : MtR X "list.count" (rCntF X.K) := by
  intro pins s σ H x xs v us Q I rx rxs h
  obtain ⟨p, ys, y, rfl, rfl, hs, fy, fys, q⟩ := h
  cases rx
  obtain ⟨u, rfl, ru⟩ := rxs.one
  obtain ⟨its, rv, ⟨⟨cls, dd, data, sl⟩, n, ho, hc, hdn, hd⟩, hlen⟩ := I.list hs
  simp only at hc hd
  subst hc hd
  refine call_meets PySem.F.slot_list_count ⟨_, ho, rfl⟩ PySem.F.entry_list_count (PySem.F.args_list_count_2 _ _)
    (SeqAt.list_countAt p its.toArray n dd sl u (eqU y)) ⟨ho, fun w hw => mem_eqAt ru fy rv fys w (by simpa using hw), ?_⟩
  refine ⟨.int ((ys.countP fun z => eqV z y : Nat) : Int), H, I.tok _, ⟨s.toks, ?_⟩, q⟩
  show Value.int ((its.toArray.toList.countP (eqU y) : Nat) : Int) s.toks = Value.int ((ys.countP fun z => eqV z y : Nat) : Int) s.toks
  rw [show its.toArray.toList = its from rfl, cnt_vals rv fys]
/-- t.index(y), flat items -/
def rIndexT (K : PySem.W.Frag) : V → List V → Hp → VK → Prop := fun x xs H Q => ∃ (a : Addr) (ys : List V) (y : V) (j : Nat) (z : V), x = V.ref a ∧ xs = [y] ∧ SqT K H a ys ∧ flatV y = true ∧ ys.all flatV = true ∧ ys[j]? = some z ∧ eqV z y = true ∧
  (∀ (m : Nat) (z' : V), m < j → ys[m]? = some z' → eqV z' y = false) ∧ Q (.int (j : Nat)) H
theorem mt_indexT : MtR X "tuple.index" (rIndexT X.K) := by
  intro pins s σ H x xs v us Q I rx rxs h
  obtain ⟨a, ys, y, j, z, rfl, rfl, hs, fy, fys, hz, hzj, hno, q⟩ := h
  cases rx
  obtain ⟨uy, rfl, ry⟩ := rxs.one
  obtain ⟨its, rv, pl, hlen⟩ := I.tuple hs
  obtain ⟨⟨cls, dd, dt, sl⟩, ho, hc, n, hd⟩ := pl
  simp only at hc hd
  subst hc
  subst hd
  obtain ⟨u, hu, ru⟩ := rv.get hz
  obtain ⟨hjl, hje⟩ := List.getElem?_eq_some_iff.mp hu
  have hvl := rv.length
  have hj : j < its.toArray.size := by simpa using hjl
  refine call_meets PySem.F.slot_tuple_index ⟨_, ho, rfl⟩ PySem.F.entry_tuple_index (PySem.F.args_tuple_index_2 _ _) (TI.tuple_indexAt a its.toArray n dd sl uy (eqU y) j hj ?_ ?_)
    ⟨ho, fun w hw => mem_eqAt ry fy rv fys w (by simpa using hw), ⟨.int (j : Nat), H, I.tok _, ⟨_, rfl⟩, q⟩⟩
  · have e1 : its.toArray[j] = u := by simpa using hje
    rw [e1, eqU_of ru (flat_at fys hz)]
    exact hzj
  · intro m hm hmj
    have hml : m < its.length := by simpa using hm
    have hmy : m < ys.length := by omega
    have hy' : ys[m]? = some ys[m] := List.getElem?_eq_getElem hmy
    obtain ⟨u2, hu2, ru2⟩ := rv.get hy'
    obtain ⟨_, hme⟩ := List.getElem?_eq_some_iff.mp hu2
    have e1 : its.toArray[m] = u2 := by simpa using hme
    rw [e1, eqU_of ru2 (flat_at fys hy')]
    exact hno m _ hmj hy'
end
end L2
end

section
set_option Elab.async false
set_option linter.all false
set_option maxRecDepth 100000
set_option maxHeartbeats 2000000
/-! Tuples whose object is known when they are made: no dict of their own. -/
namespace L2
open PySem PySem.Spec PyProof.Rows
/-- the tuple at p, its object held fast -/
def NewT (H : Hp) (xs : List V) (Q : VK) : Prop := ∀ (p : Addr) (o : Obj), H p = none → o.dict = none → Q (.ref p) (upd H p (.frz o (.tup xs)))
/-- a tuple that has no dict of its own -/
def SqS (K : PySem.W.Frag) (H : Hp) (a : Addr) (xs : List V) : Prop := (∃ o : Obj, H a = some (.frz o (.tup xs)) ∧ o.dict = none) ∨
  ∃ (o : Obj) (its : Array Value) (n : Nat), K.lookup a = some o ∧ o.cls = .type "tuple" ∧ o.dict = none ∧ o.data = .seq its n ∧ its.size ≤ sizeLine ∧ Vals xs its.toList
theorem SqS.t {K : PySem.W.Frag} {H : Hp} {a : Addr} {xs : List V} (h : SqS K H a xs) : SqT K H a xs := by
  rcases h with ⟨o, h, _⟩ | ⟨o, its, n, h1, h2, _, h4⟩
  · exact .inl (.inr ⟨o, h⟩)
  · exact .inr ⟨o, its, n, h1, h2, h4⟩
section
variable {X : Cx} {pins : List (Addr × Obj)} {σ : St} {H : Hp} {s : Shared} {xs : List V} {its : List Value} {Q : VK}
theorem newT_at {k : Nat} (I : Inv X pins σ H s) (hz : xs.length ≤ sizeLine) (r : Vals xs its) (q : NewT H xs Q) :
    EP X pins σ Q (.ref s.heap.objs.size) { s with toks := k, heap := s.heap.push { cls := .type "tuple", data := .seq its.toArray } } := by
  have hf := I.hok.fresh (Nat.le_refl s.heap.objs.size)
  have ok : ObjOk X.prog X.w (upd H s.heap.objs.size (.frz { cls := .type "tuple", data := .seq its.toArray } (.tup xs))) (s.heap.push { cls := .type "tuple", data := .seq its.toArray }) s.heap.objs.size (.frz { cls := .type "tuple", data := .seq its.toArray } (.tup xs)) :=
    ⟨Heap.get?_push_size _ rfl, hz, its, r, IsTup.new _ _⟩
  exact ⟨.ref s.heap.objs.size, _, I.laid (fun _ _ => Heap.get?_push_of_some _) (Nat.le_refl _) ok, rfl, q _ _ hf rfl⟩
/-! (a, b, ..) -/
def tTupS (t : TA) : TE := fun σ H Q => t σ H fun xs H1 => xs.length ≤ sizeLine ∧ NewT H1 xs Q
theorem pe_tupS {es : List Expr} {t : TA} {x1 : Nat} {pos : Pos} (h : PA X es t) : PE X (.Tuple es x1 pos) (tTupS t) := by
  constructor
  intro pins s σ H Q I hq
  refine wpAny_Tuple_spliced (thn (h.run pos pins s σ H _ I hq) ?_)
  rintro us s1 ⟨xs, H1, I1, r, z, q⟩
  exact ⟨by rw [← r.length]; exact z, newT_at I1 z r q⟩
/-! t + u -/
def rCatS (K : PySem.W.Frag) : R2 := fun x y H Q => ∃ (a b : Addr) (xs ys : List V), x = V.ref a ∧ y = V.ref b ∧ SqT K H a xs ∧ SqT K H b ys ∧ xs.length + ys.length ≤ sizeLine ∧
  (xs = [] → Q (.ref b) H) ∧ (xs ≠ [] → ys = [] → Q (.ref a) H) ∧ (xs ≠ [] → ys ≠ [] → NewT H (xs ++ ys) Q)
theorem op_catS : OpR X (binaryOp .Add) (rCatS X.K) := by
  intro pins s σ H x y v u Q I rx ry h
  obtain ⟨a, b, xs, ys, ex, ey, ha, hb, hz, q0, q1, q2⟩ := h
  by_cases hx : xs = []
  · exact op_catA pins s σ H x y v u Q I rx ry ⟨a, b, xs, ys, ex, ey, ha, hb, hz, q0, fun n => absurd hx n, fun n => absurd hx n⟩
  · subst ex ey
    cases rx
    cases ry
    obtain ⟨ia, va, ta, _⟩ := I.tuple ha
    obtain ⟨ib, vb, tb, _⟩ := I.tuple hb
    refine HT.cat_tup ta tb (fun z => hx (va.nil_iff.mp z)) ?_ ?_ (by rw [← va.length, ← vb.length]; exact hz)
    · intro z
      exact ⟨.ref a, H, I, rfl, q1 hx (vb.nil_iff.mp z)⟩
    · intro z
      exact newT_at I (by rw [List.length_append]; exact hz) (va.append vb) (q2 hx fun n => z (vb.nil_iff.mpr n))
/-! t[lo:hi] -/
def rSlZ (K : PySem.W.Frag) : V → Option Int → Option Int → Hp → VK → Prop := fun x lo hi H Q => ∃ (a : Addr) (xs : List V), x = V.ref a ∧ SqT K H a xs ∧
  (HT.sIx xs.length 0 lo = 0 ∧ HT.sIx xs.length xs.length hi = xs.length → Q (.ref a) H) ∧ (¬ (HT.sIx xs.length 0 lo = 0 ∧ HT.sIx xs.length xs.length hi = xs.length) → NewT H (cutV xs lo hi) Q)
theorem sl_tupZ : SlR X (rSlZ X.K) := by
  intro pins s σ H x v vl vu lo hi sl Q I rx hs pl pu h
  obtain ⟨a, xs, ex, hx, q1, q2⟩ := h
  by_cases hw : HT.sIx xs.length 0 lo = 0 ∧ HT.sIx xs.length xs.length hi = xs.length
  · exact sl_tupA pins s σ H x v vl vu lo hi sl Q I rx hs pl pu ⟨a, xs, ex, hx, q1, fun n => absurd hw n⟩
  · subst ex
    cases rx
    obtain ⟨its, r, ht, hz⟩ := I.tuple hx
    have hn : its.toArray.size = xs.length := by rw [List.size_toArray]; exact r.length.symm
    refine ⟨"tuple", _, PyProof.Rows.slot_tuple_getitem.lookup, ht.typeIs, ?_⟩
    refine HT.getItem_tuple_cut ht hs pl pu (by rw [hn]; exact hw) ?_ (by rw [hn]; exact hz)
    rw [hn]
    exact newT_at I (Nat.le_trans (cutV_length xs lo hi) hz) ((r.drop (HT.sIx xs.length 0 lo)).take (HT.sIx xs.length xs.length hi - HT.sIx xs.length 0 lo)) (q2 hw)
/-! t * k -/
def rRepS (K : PySem.W.Frag) : R2 := fun x y H Q => ∃ (l : Addr) (k : Int) (xs : List V), x = V.ref l ∧ y = V.int k ∧ SqT K H l xs ∧ xs ≠ [] ∧ 0 ≤ k ∧ k ≤ 1000 ∧ xs.length ≤ 1000 ∧ (k = 1 → Q (.ref l) H) ∧ (k ≠ 1 → NewT H (List.replicate k.toNat xs).flatten Q)
theorem tuple_mul0 (l : Addr) (items : Array Value) (n : Nat) (dd : Option Addr) (sl : Array (Option Value)) (x : Int) (u : Tok) (c0 : (decide (x < -(2 ^ 63)) || decide (x ≥ 2 ^ 63)) = false) (c1 : (items.isEmpty || x == 1) = false) (c2 : (decide (x ≤ 0) || items.isEmpty) = true) :
    Meets (Builtin.«tuple.__mul__» ⟨[.ref l, .int x u], []⟩) (fun _ R s => s.heap.get? l = some { cls := .type "tuple", dict := dd, data := .seq items n, slots := sl } ∧
      R (.ok (.ret (Value.ref s.heap.objs.size))) { s with heap := s.heap.push { cls := Value.type "tuple", data := Data.seq #[] }, toks := s.toks }) :=
  .of_wp fun prog w A R s h => by
    obtain ⟨hp, g, d, tk, os⟩ := s
    obtain ⟨hl, h⟩ := h
    have f1 := AutoSeq1.idx_int
    wp_walk using wpAny_loadPart' hl
    repeat (first
      | (refine wpAny_ite_false (decide_eq_false (by rw [c0]; exact Bool.false_ne_true)) ?_; wp_walk using wpAny_loadPart' hl)
      | (refine wpAny_ite_false (decide_eq_false (by rw [c1]; exact Bool.false_ne_true)) ?_; wp_walk using wpAny_loadPart' hl)
      | (refine wpAny_ite_true (decide_eq_true c2) ?_; wp_walk using wpAny_loadPart' hl))
    exact ⟨_, rfl, h⟩
theorem tuple_mul1 (l : Addr) (items : Array Value) (n : Nat) (dd : Option Addr) (sl : Array (Option Value)) (x : Int) (u : Tok) (c0 : (decide (x < -(2 ^ 63)) || decide (x ≥ 2 ^ 63)) = false) (c1 : (items.isEmpty || x == 1) = true) :
    Meets (Builtin.«tuple.__mul__» ⟨[.ref l, .int x u], []⟩) (fun _ R s => s.heap.get? l = some { cls := .type "tuple", dict := dd, data := .seq items n, slots := sl } ∧
      R (.ok (.ret (Value.ref l))) s) :=
  .of_wp fun prog w A R s h => by
    obtain ⟨hp, g, d, tk, os⟩ := s
    obtain ⟨hl, h⟩ := h
    have f1 := AutoSeq1.idx_int
    wp_walk using wpAny_loadPart' hl
    repeat (first
      | (refine wpAny_ite_false (decide_eq_false (by rw [c0]; exact Bool.false_ne_true)) ?_; wp_walk using wpAny_loadPart' hl)
      | (refine wpAny_ite_true (decide_eq_true c1) ?_; wp_walk using wpAny_loadPart' hl))
    exact ⟨_, rfl, h⟩
theorem op_repS : OpR X (binaryOp .Mult) (rRepS X.K) := by
  intro pins s σ H x y v u Q I rx ry h
  obtain ⟨l, k, xs, ex, ey, hT, hne, k1, k2, hz, q1, q⟩ := h
  subst ex ey
  cases rx
  obtain ⟨t, et⟩ := ry
  subst et
  obtain ⟨us, r, ⟨⟨cls, dd, data, sl⟩, ho, hc, n, hd⟩, _⟩ := I.tuple hT
  have hc : cls = .type "tuple" := hc
  have hd : data = .seq us.toArray n := hd
  subst hc hd
  have hle : us.length = xs.length := r.length.symm
  have hi : us.toArray.isEmpty = false := by
    cases us with
    | nil => exact absurd (List.eq_nil_of_length_eq_zero hle.symm) hne
    | cons _ _ => rfl
  have sz : us.toArray.size = xs.length := by rw [List.size_toArray]; exact hle
  have m1 : ((us.toArray.size : Nat) : Int) * k ≤ 1000000 := by
    rw [sz]
    exact Int.le_trans (Int.mul_le_mul_of_nonneg_right (show ((xs.length : Nat) : Int) ≤ 1000 by omega) (show 0 ≤ k by omega)) (by omega)
  have m2 : k.toNat * xs.length ≤ 1000000 := Nat.mul_le_mul (show k.toNat ≤ 1000 by omega) hz
  have fl : (List.replicate k.toNat us).flatten.length ≤ sizeLine := by
    rw [PyProof.Rows.lm_len_rep_flat, hle, sizeLine_eq]; exact Nat.le_trans m2 (by decide)
  have a0 : (decide (k < -(2 ^ 63)) || decide (k ≥ 2 ^ 63)) = false := by
    simp only [Bool.or_eq_false_iff, decide_eq_false_iff_not]; omega
  have inner := int_rmul_tuple k t l us.toArray n dd sl
  refine wpAny_binaryOp_repeat_ref (T := "tuple") (U := "int") (by decide) ⟨_, ho, rfl⟩ (fun s' => typeIs_int s' k t) noFill_tuple_mul F.fills_int_mul F.slot_int_rmul repeat_tuple F.slot_int_index.lookup ?_
  refine call_meets F.slot_int_rmul (typeIs_int s k t) F.entry_int_rmul (F.args_int_rmul_2 _ _) inner ⟨ho, rfl, ⟨_, ho, rfl⟩, ?_⟩
  by_cases e1 : k = 1
  · have a1 : (us.toArray.isEmpty || k == 1) = true := by rw [hi, e1]; rfl
    refine call_meets F.slot_tuple_mul ⟨_, ho, rfl⟩ F.entry_tuple_mul (F.args_tuple_mul_2 _ _) (tuple_mul1 l us.toArray n dd sl k t a0 a1) ⟨ho, ?_⟩
    exact ⟨.ref l, H, I, rfl, q1 e1⟩
  have q := q e1
  have a1 : (us.toArray.isEmpty || k == 1) = false := by
    rw [hi]; simp only [Bool.false_or, beq_eq_false_iff_ne]; exact e1
  by_cases e0 : k = 0
  · have a2 : (decide (k ≤ 0) || us.toArray.isEmpty) = true := by rw [hi, e0]; rfl
    refine call_meets F.slot_tuple_mul ⟨_, ho, rfl⟩ F.entry_tuple_mul (F.args_tuple_mul_2 _ _) (tuple_mul0 l us.toArray n dd sl k t a0 a1 a2) ⟨ho, ?_⟩
    subst e0
    exact newT_at (its := []) I (Nat.zero_le _) .nil q
  have a2 : (decide (k ≤ 0) || us.toArray.isEmpty) = false := by
    rw [hi]; simp only [Bool.or_false, decide_eq_false_iff_not]; omega
  have a4 : Builtin.Tuple.tupleTooMany (((us.toArray.size : Nat) : Int) * k) = false := by
    unfold Builtin.Tuple.tupleTooMany; rw [sizeLine_eq]; exact decide_eq_false (by omega)
  have step := tuple_mulW l us.toArray n dd sl k t a0 a1 a2 (by omega) a4 (by rw [size_rep, List.size_toArray]; exact fl)
  refine call_meets F.slot_tuple_mul ⟨_, ho, rfl⟩ F.entry_tuple_mul (F.args_tuple_mul_2 _ _) step ⟨ho, ?_⟩
  rw [size_rep]
  refine newT_at I ?_ (r.rep k.toNat) q
  rw [PyProof.Rows.lm_len_rep_flat, sizeLine_eq]; exact Nat.le_trans m2 (by decide)
/-! tuple(l) -/
theorem call_tupS : CallR X (.type "tuple") (fun xs H Q => ∃ (p : Addr) (ys : List V), xs = [V.ref p] ∧ ((SqL X.K H p ys ∧ NewT H ys Q) ∨ (SqT X.K H p ys ∧ Q (.ref p) H))) := by
  intro pins s σ H xs us Q I r h
  obtain ⟨p, ys, ex, h⟩ := h
  rcases h with ⟨hq, q⟩ | ⟨hq, q⟩
  · subst ex
    obtain ⟨u, eu, ru⟩ := vals1 r
    subst eu
    cases ru
    obtain ⟨its, rv, pl, hz⟩ := I.list hq
    refine call_tuple_list pl.isList ?_ (by rw [List.size_toArray, ← rv.length]; exact hz)
    intro h' kp
    exact newT_at (s := { s with heap := h' }) (I.kept (t' := s.toks) kp) hz rv q
  · exact call_tuple_of pins s σ H xs us Q I r ⟨p, ys, ex, .inr ⟨hq, q⟩⟩
/-! tuple(range(..)) -/
def tTupRgS (te : St → Hp → (Int → Int → Hp → Prop) → Prop) : TE := fun σ H Q => te σ H fun a b H1 => RgOk a b ∧ NewT H1 (rgV a b) Q
theorem pe_tupRgS {e : Expr} {te : St → Hp → (Int → Int → Hp → Prop) → Prop} {p pos : Pos} (hc : X.calm = true) (hg : Gl X "tuple") (hm : X.mg "tuple" = none) (he : PRg X e te) (na : starEach [e] X.env = (false, eval e X.env) :: starEach [] X.env) :
    PE X (.Call (.Name "tuple" p) [e] [] pos) (tTupRgS te) := by
  constructor
  intro pins s σ H Q I h
  refine Call_ (ld_blt I hg hm boot_tuple (PyProof.Rows.callWith_type1 (args_cons (thn (he pins s σ H _ I h) ?_) na) na))
  rintro x s1 ⟨r, a, b, t, u, v, H1, rfl, hr, I1, ok, q⟩
  refine args_nil ?_
  obtain ⟨b1, b2, b3, b4, b5⟩ := ok
  refine call_tuple_range (n := (b - a).toNat) (I1.ok.hd hc) hr (small_one b1 b2 b3 b4) (rangeSize_nat a b) b5 ?_
  intro h' tk acc hk hi
  have I2 : Inv X pins σ H1 { s1 with heap := h', toks := tk } := I1.kept hk
  have z := newT_at (k := tk) I2 (its := acc.toList) (by rw [rgV_length, sizeLine_eq]; omega) (vals_rg hi) q
  rw [Array.toArray_toList] at z
  exact z
/-! t.m(..), of a tuple without a dict -/
def tBMT (K : PySem.W.Frag) (r : V → List V → Hp → VK → Prop) (to : TE) (t : TA) : TE := fun σ H Q => to σ H fun x H1 => (∃ (p : Addr) (xs : List V), x = .ref p ∧ SqS K H1 p xs) ∧ t σ H1 fun xs H2 => r x xs H2 Q
theorem sqS_is {x : V} {v : Value} {p : Addr} {xs : List V} (I : Inv X pins σ H s) (r : RelV x v) (ex : x = .ref p) (h : SqS X.K H p xs) : s.TypeIs v "tuple" ∧ ∀ a, v = .ref a → ∃ ob, s.heap.get? a = some ob ∧ ob.dict = none := by
  subst ex
  cases r
  rcases h with ⟨o, h, hd⟩ | ⟨o, its, n, h1, h2, h3, _⟩
  · obtain ⟨e, _, _, _, o', e', c', _⟩ := (show ObjOk X.prog X.w H s.heap p (.frz o (.tup xs)) from I.hok p _ h)
    refine ⟨⟨o', e', c'⟩, fun a ea => ?_⟩
    cases ea
    exact ⟨o, e, hd⟩
  · refine ⟨⟨o, I.kIn p o h1, h2⟩, fun a ea => ?_⟩
    cases ea
    exact ⟨o, I.kIn _ o h1, h3⟩
theorem pe_bmT {o e : Expr} {es : List Expr} {to : TE} {t : TA} {name : Str} {apos cpos : Pos} {id : String} {r : V → List V → Hp → VK → Prop} (slot : Slot "tuple" name id) (hty : typeOf (.builtin id) = pure (.type "method_descriptor")) (hm : MtR X id r) (ho : PE X o to) (ha : PA X (e :: es) t)
    (hbase : attributeBase o name X.env (eval o X.env) = eval o X.env)
    (hfew : ((backTo cpos (starEach (e :: es) X.env)).all (fun x => !x.1) && (backToKw cpos (keywordEach [] X.env)).all (fun x => x.1.isSome)
      && decide ((e :: es).length + ([] : List Keyword).length + (if ([] : List Keyword).isEmpty then 0 else 1) < 30)) = true)
    (hline : (apos.endLine == cpos.line) = true) (hs : starEach (e :: es) X.env = (false, eval e X.env) :: starEach es X.env) (hplain : (backTo cpos (starEach es X.env)).any (·.1) = false) (pa : PlainAttrs "tuple") :
    PE X (.Call (.Attribute o name apos) (e :: es) [] cpos) (tBMT X.K r to t) := by
  constructor
  intro pins s σ H Q I h
  refine wpAny_Call_method_late hbase hfew hline rfl (thn (ho.run pins s σ H _ I h) ?_)
  rintro v s1 ⟨x, H1, I1, r1, ⟨p, xs, ex, hq⟩, q1⟩
  obtain ⟨h1, h2⟩ := sqS_is I1 r1 ex hq
  refine ⟨"tuple", id, pa, slot, hty, h1, h2, ?_⟩
  have hA := ha.run cpos pins s1 σ H1 _ I1 q1
  rw [hs] at hA ⊢
  refine Calls.callWith_builtin (by show (false || (backTo cpos (starEach es X.env)).any (·.1)) = false; rw [hplain] <;> rfl) (Calls.evalArgs_plain ?_)
  refine thn hA ?_
  rintro us s2 ⟨vs, H2, I2, r2, q2⟩
  exact hm pins s2 σ H2 x vs v us Q I2 r1 r2 q2
end
end L2
end

section
set_option Elab.async false
set_option linter.all false
set_option maxRecDepth 100000
set_option maxHeartbeats 2000000
namespace Iv
open PySem L2

/-! ### data in a heap -/
def keyD : Key → PyData
  | .inl i => .int i
  | .inr x => .str x
mutual
inductive Dq (K : PySem.W.Frag) (H : Hp) : V → PyData → Prop
  | non : Dq K H .non .none
  | bl (b : Bool) : Dq K H (.bl b) (.bool b)
  | int (i : Int) : Dq K H (.int i) (.int i)
  | str (x : Str) : Dq K H (.str x) (.str x)
  | lst {a : Addr} {xs : List V} {ds : List PyData} : H a = some (.lst xs) → DqA K H xs ds → Dq K H (.ref a) (.list ds)
  | tup {a : Addr} {xs : List V} {ds : List PyData} : SqS K H a xs → DqA K H xs ds → Dq K H (.ref a) (.tuple ds)
  | scr {a : Addr} {xs : List V} {ds : List PyData} : SqL K H a xs → DqA K H xs ds → Dq K H (.ref a) (.dict [(.none, .list ds)])
  | exc {a dd : Addr} {nm f : Str} {v : V} {d : PyData} : H a = some (exv (.ref (He.ga K nm)) (some dd) a) → H dd = some (.xd [(f, v)]) → Dq K H v d → Dq K H (.ref a) (.dict [(.str nm, .dict [(.str f, d)])])
  | dct {a : Addr} {o : Obj} {kvs : List (Key × V)} {ks vs : List PyData} : H a = some (.frz o (.dK kvs)) → ks = kvs.map (fun kv => keyD kv.1) → DqA K H (kvs.map (·.2)) vs → Dq K H (.ref a) (.dict [(.bool true, .tuple [.list ks, .list vs])])
inductive DqA (K : PySem.W.Frag) (H : Hp) : List V → List PyData → Prop
  | nil : DqA K H [] []
  | cons {v : V} {vs : List V} {d : PyData} {ds : List PyData} : Dq K H v d → DqA K H vs ds → DqA K H (v :: vs) (d :: ds)
end
def Ext (H H' : Hp) : Prop := ∀ a o, H a = some o → H' a = some o
theorem Ext.refl (H : Hp) : Ext H H := fun _ _ h => h
theorem Ext.trans {H H1 H2 : Hp} (f : Ext H H1) (g : Ext H1 H2) : Ext H H2 := fun a o h => g a o (f a o h)
theorem Ext.new {H : Hp} {p : Addr} {o : HO} (h : H p = none) : Ext H (upd H p o) := fun a u e => by
  rw [upd_ne (ne_of_none e h)]; exact e
theorem sqL_ext0 {K : PySem.W.Frag} {H H' : Hp} {a : Addr} {xs : List V} (e : Ext H H') (h : SqL K H a xs) : SqL K H' a xs := by
  rcases h with (h | ⟨o, h⟩) | h
  · exact .inl (.inl (e _ _ h))
  · exact .inl (.inr ⟨o, e _ _ h⟩)
  · exact .inr h
theorem sqT_ext {K : PySem.W.Frag} {H H' : Hp} {a : Addr} {xs : List V} (e : Ext H H') (h : SqT K H a xs) : SqT K H' a xs := by
  rcases h with (h | ⟨o, h⟩) | h
  · exact .inl (.inl (e _ _ h))
  · exact .inl (.inr ⟨o, e _ _ h⟩)
  · exact .inr h
theorem sqS_ext {K : PySem.W.Frag} {H H' : Hp} {a : Addr} {xs : List V} (e : Ext H H') (h : SqS K H a xs) : SqS K H' a xs := by
  rcases h with ⟨o, h, hd⟩ | h
  · exact .inl ⟨o, e _ _ h, hd⟩
  · exact .inr h
section
variable {K : PySem.W.Frag} {H H' : Hp}
mutual
theorem Dq.mono (e : Ext H H') : ∀ (d : PyData) (v : V), Dq K H v d → Dq K H' v d
  | .none, _, h => by cases h; exact .non
  | .bool _, _, h => by cases h; exact .bl _
  | .int _, _, h => by cases h; exact .int _
  | .str _, _, h => by cases h; exact .str _
  | .list ds, _, h => by
    cases h with
    | lst h1 h2 => exact .lst (e _ _ h1) (DqA.mono e ds _ h2)
  | .tuple ds, _, h => by
    cases h with
    | tup h1 h2 => exact .tup (sqS_ext e h1) (DqA.mono e ds _ h2)
  | .dict l, _, h => by
    cases h with
    | scr h1 h2 => exact .scr (sqL_ext0 e h1) (DqA.mono e _ _ h2)
    | exc h1 h2 h3 => exact .exc (e _ _ h1) (e _ _ h2) (Dq.mono e _ _ h3)
    | dct h1 h2 h3 => exact .dct (e _ _ h1) h2 (DqA.mono e _ _ h3)
termination_by d => sizeOf d
theorem DqA.mono (e : Ext H H') : ∀ (ds : List PyData) (vs : List V), DqA K H vs ds → DqA K H' vs ds
  | [], _, h => by cases h; exact .nil
  | d :: ds, _, h => by
    cases h with
    | cons h1 h2 => exact .cons (Dq.mono e d _ h1) (DqA.mono e ds _ h2)
termination_by ds => sizeOf ds
end
mutual
theorem Dq.dp : ∀ (d : PyData) (v : V), d.canLay0 = true → Dq K H v d → Dp K H v d
  | .none, _, _, h => by cases h; exact .non
  | .bool _, _, _, h => by cases h; exact .bl _
  | .int _, _, _, h => by cases h; exact .int _
  | .str _, _, _, h => by cases h; exact .str _
  | .list ds, _, c, h => by
    cases h with
    | lst h1 h2 => exact .lst (SqL.of h1) (DqA.dp ds _ (by simpa [PyData.canLay0] using c) h2)
  | .tuple ds, _, c, h => by
    cases h with
    | tup h1 h2 => exact .tup h1.t (DqA.dp ds _ (by simpa [PyData.canLay0] using c) h2)
  | .dict _, _, c, _ => by simp [PyData.canLay0] at c
theorem DqA.dp : ∀ (ds : List PyData) (vs : List V), PyData.canLayAll0 ds = true → DqA K H vs ds → DpAll K H vs ds
  | [], _, _, h => by cases h; exact .nil
  | d :: ds, _, c, h => by
    cases h with
    | cons h1 h2 =>
      have c : d.canLay0 = true ∧ PyData.canLayAll0 ds = true := by simpa [PyData.canLayAll0] using c
      exact .cons (Dq.dp d _ c.1 h1) (DqA.dp ds _ c.2 h2)
end
theorem DqA.length : ∀ {ds : List PyData} {vs : List V}, DqA K H vs ds → vs.length = ds.length
  | [], _, h => by cases h; rfl
  | d :: ds, _, h => by
    cases h with
    | cons h1 h2 => simp [DqA.length h2]
theorem DqA.append : ∀ {ds es : List PyData} {vs us : List V}, DqA K H vs ds → DqA K H us es → DqA K H (vs ++ us) (ds ++ es)
  | [], _, _, _, h, k => by cases h; exact k
  | d :: ds, _, _, _, h, k => by
    cases h with
    | cons h1 h2 => exact .cons h1 (DqA.append h2 k)
theorem DqA.get : ∀ {ds : List PyData} {vs : List V} {i : Nat} {d : PyData}, DqA K H vs ds → ds[i]? = some d → ∃ v, vs[i]? = some v ∧ Dq K H v d
  | [], _, _, _, h, e => by simp at e
  | x :: ds, _, 0, d, h, e => by
    cases h with
    | cons h1 h2 =>
      have e' : x = d := by simpa using e
      subst e'
      exact ⟨_, rfl, h1⟩
  | x :: ds, _, i + 1, d, h, e => by
    cases h with
    | cons h1 h2 =>
      obtain ⟨v, e1, e2⟩ := DqA.get (i := i) h2 (by simpa using e)
      exact ⟨v, by simpa using e1, e2⟩
theorem DqA.getV {ds : List PyData} {vs : List V} {i : Nat} {v : V} (h : DqA K H vs ds) (e : vs[i]? = some v) : ∃ d, ds[i]? = some d ∧ Dq K H v d := by
  have hl := h.length
  have hi : i < ds.length := by
    have := (List.getElem?_eq_some_iff.mp e).1
    omega
  obtain ⟨u, e1, e2⟩ := h.get (List.getElem?_eq_getElem hi)
  rw [e] at e1; cases e1
  exact ⟨_, List.getElem?_eq_getElem hi, e2⟩
theorem DqA.take : ∀ {ds : List PyData} {vs : List V} (n : Nat), DqA K H vs ds → DqA K H (vs.take n) (ds.take n)
  | _, _, 0, _ => by simp; exact .nil
  | [], _, n + 1, h => by cases h; simp; exact .nil
  | d :: ds, _, n + 1, h => by
    cases h with
    | cons h1 h2 => simp; exact .cons h1 (DqA.take n h2)
theorem DqA.drop : ∀ {ds : List PyData} {vs : List V} (n : Nat), DqA K H vs ds → DqA K H (vs.drop n) (ds.drop n)
  | _, _, 0, h => by simpa using h
  | [], _, n + 1, h => by cases h; simp; exact .nil
  | d :: ds, _, n + 1, h => by
    cases h with
    | cons h1 h2 => simpa using DqA.drop n h2
theorem DqA.set : ∀ {ds : List PyData} {vs : List V} {v : V} {d : PyData} (n : Nat), DqA K H vs ds → Dq K H v d → DqA K H (vs.set n v) (ds.set n d)
  | [], _, _, _, _, h, _ => by cases h; simp; exact .nil
  | x :: ds, _, _, _, 0, h, k => by
    cases h with
    | cons h1 h2 => simp; exact .cons k h2
  | x :: ds, _, _, _, n + 1, h, k => by
    cases h with
    | cons h1 h2 => simp; exact .cons h1 (DqA.set n h2 k)
theorem DqA.flatten : ∀ {n : Nat} {ds : List PyData} {vs : List V}, DqA K H vs ds → DqA K H (List.replicate n vs).flatten (List.replicate n ds).flatten
  | 0, _, _, _ => by simp; exact .nil
  | n + 1, ds, vs, h => by
    rw [List.replicate_succ, List.replicate_succ, List.flatten_cons, List.flatten_cons]
    exact h.append (DqA.flatten h)
end

/-! ### hidden things -/
abbrev Hd := Addr → Bool
def hid (S : Hd) (H : Hp) : Hp := fun a => if S a = true then none else H a
section
variable {S S' S1 S2 : Hd} {H H' H1 H2 : Hp} {a : Addr} {o : HO}
theorem hid_ext : Ext (hid S H) H := fun a o h => by
  unfold hid at h
  split at h
  · cases h
  · exact h
theorem hid_some (hS : S a = false) (h : H a = some o) : hid S H a = some o := by
  unfold hid
  rw [if_neg (by rw [hS]; exact Bool.false_ne_true)]
  exact h
theorem hid_of (h : hid S H a = some o) : S a = false ∧ H a = some o := by
  unfold hid at h
  split at h
  · cases h
  · rename_i q
    exact ⟨by simpa using q, h⟩
theorem sqS_new {K : PySem.W.Frag} {xs : List V} {ob : Obj} (hS : S a = false) (ho : ob.dict = none) : SqS K (hid S (upd H a (.frz ob (.tup xs)))) a xs := .inl ⟨ob, hid_some hS upd_same, ho⟩
def Dm (S : Hd) (H : Hp) : Prop := ∀ a, S a = true → H a ≠ none
/-- how a heap goes on: O are the things that may change -/
structure Fr (S : Hd) (H : Hp) (O : Addr → Prop) (S' : Hd) (H' : Hp) : Prop where
  keep : ∀ a o, S a = false → H a = some o → S' a = false ∧ H' a = some o
  dom : ∀ a, H a ≠ none → H' a ≠ none
  hidn : ∀ a, S a = true → ¬ O a → S' a = true ∧ H' a = H a
  new : ∀ a, S' a = true → S a = true ∨ H a = none
  dm0 : Dm S H
  dm : Dm S' H'
theorem Fr.refl {O : Addr → Prop} (h : Dm S H) : Fr S H O S H := ⟨fun _ _ a b => ⟨a, b⟩, fun _ h => h, fun _ a _ => ⟨a, rfl⟩, fun _ h => .inl h, h, h⟩
theorem Fr.hid {O : Addr → Prop} (f : Fr S H O S' H') : Ext (hid S H) (hid S' H') := fun a o h => by
  obtain ⟨h1, h2⟩ := hid_of h
  obtain ⟨h3, h4⟩ := f.keep a o h1 h2
  exact hid_some h3 h4
theorem Fr.imp {O O' : Addr → Prop} (f : Fr S H O S' H') (h : ∀ a, O a → O' a) : Fr S H O' S' H' := ⟨f.keep, f.dom, fun a h1 h2 => f.hidn a h1 fun z => h2 (h a z), f.new, f.dm0, f.dm⟩
theorem Fr.fresh {O : Addr → Prop} (f : Fr S H O S' H') (h : H' a = none) : H a = none := by
  cases e : H a with
  | none => rfl
  | some o => exact absurd h (f.dom a (by rw [e]; simp))
theorem Fr.trans {O O1 : Addr → Prop} (f : Fr S H O S1 H1) (g : Fr S1 H1 O1 S2 H2) (h : ∀ a, O1 a → O a ∨ H a = none) : Fr S H O S2 H2 where
  keep := fun a o h1 h2 => let ⟨h3, h4⟩ := f.keep a o h1 h2; g.keep a o h3 h4
  dom := fun a h1 => g.dom a (f.dom a h1)
  hidn := fun a h1 h2 => by
    obtain ⟨h3, h4⟩ := f.hidn a h1 h2
    have h5 : ¬ O1 a := fun z => (h a z).elim h2 fun q => f.dm0 a h1 q
    obtain ⟨h6, h7⟩ := g.hidn a h3 h5
    exact ⟨h6, h7.trans h4⟩
  new := fun a h1 => by
    rcases g.new a h1 with q | q
    · exact f.new a q
    · exact .inr (f.fresh q)
  dm0 := f.dm0
  dm := g.dm
/-- a new thing that is known to all -/
theorem Fr.alloc {O : Addr → Prop} {p : Addr} (h : Dm S H) (hp : H p = none) : Fr S H O S (upd H p o) where
  keep := fun a u h1 h2 => ⟨h1, by rw [upd_ne (ne_of_none h2 hp)]; exact h2⟩
  dom := fun a h1 => by
    by_cases e : a = p
    · rw [e, upd_same]; simp
    · rw [upd_ne e]; exact h1
  hidn := fun a h1 _ => ⟨h1, upd_ne fun e => h a h1 (by rw [e]; exact hp)⟩
  new := fun a h1 => .inl h1
  dm0 := h
  dm := fun a h1 => by
    by_cases e : a = p
    · rw [e, upd_same]; simp
    · rw [upd_ne e]; exact h a h1
def hide (S : Hd) (p : Addr) : Hd := fun a => a == p || S a
def bare (S : Hd) (p : Addr) : Hd := fun a => a != p && S a
theorem hide_same {p : Addr} : hide S p p = true := by simp [hide]
theorem hide_ne {p a : Addr} (h : a ≠ p) : hide S p a = S a := by simp [hide, h]
theorem bare_same {p : Addr} : bare S p p = false := by simp [bare]
theorem bare_ne {p a : Addr} (h : a ≠ p) : bare S p a = S a := by simp [bare, h]
/-- a new thing that is kept hidden -/
theorem Fr.allocH {O : Addr → Prop} {p : Addr} (h : Dm S H) (hp : H p = none) : Fr S H O (hide S p) (upd H p o) where
  keep := fun a u h1 h2 => ⟨by rw [hide_ne (ne_of_none h2 hp)]; exact h1, by rw [upd_ne (ne_of_none h2 hp)]; exact h2⟩
  dom := fun a h1 => by
    by_cases e : a = p
    · rw [e, upd_same]; simp
    · rw [upd_ne e]; exact h1
  hidn := fun a h1 _ => by
    have e : a ≠ p := fun e => h a h1 (by rw [e]; exact hp)
    exact ⟨by rw [hide_ne e]; exact h1, upd_ne e⟩
  new := fun a h1 => by
    by_cases e : a = p
    · exact .inr (by rw [e]; exact hp)
    · rw [hide_ne e] at h1; exact .inl h1
  dm0 := h
  dm := fun a h1 => by
    by_cases e : a = p
    · rw [e, upd_same]; simp
    · rw [hide_ne e] at h1
      rw [upd_ne e]; exact h a h1
/-- a hidden thing becomes known -/
theorem Fr.show {O : Addr → Prop} {p : Addr} (h : Dm S H) (hp : O p) : Fr S H O (bare S p) H where
  keep := fun a u h1 h2 => ⟨by
    by_cases e : a = p
    · rw [e]; exact bare_same
    · rw [bare_ne e]; exact h1, h2⟩
  dom := fun a h1 => h1
  hidn := fun a h1 h2 => by
    have e : a ≠ p := fun e => h2 (by rw [e]; exact hp)
    exact ⟨by rw [bare_ne e]; exact h1, rfl⟩
  new := fun a h1 => by
    by_cases e : a = p
    · rw [e, bare_same] at h1; cases h1
    · rw [bare_ne e] at h1; exact .inl h1
  dm0 := h
  dm := fun a h1 => by
    by_cases e : a = p
    · rw [e, bare_same] at h1; cases h1
    · rw [bare_ne e] at h1; exact h a h1
/-- a hidden thing changes -/
theorem Fr.store {O : Addr → Prop} {p : Addr} (h : Dm S H) (hp : O p) (hs : S p = true) : Fr S H O S (upd H p o) where
  keep := fun a u h1 h2 => ⟨h1, by rw [upd_ne (fun e => by rw [e, hs] at h1; cases h1)]; exact h2⟩
  dom := fun a h1 => by
    by_cases e : a = p
    · rw [e, upd_same]; simp
    · rw [upd_ne e]; exact h1
  hidn := fun a h1 h2 => ⟨h1, upd_ne fun e => h2 (by rw [e]; exact hp)⟩
  new := fun a h1 => .inl h1
  dm0 := h
  dm := fun a h1 => by
    by_cases e : a = p
    · rw [e, upd_same]; simp
    · rw [upd_ne e]; exact h a h1
end

/-! ### what is known of the names -/
def SlotOk (K : PySem.W.Frag) (S : Hd) (H : Hp) (σ : St) (i : Nat) : Slot → Prop
  | .no => True
  | .dat d => ∃ v, σ[i]? = some (some v) ∧ Dq K (hid S H) v d
  | .own ds => ∃ p vs, σ[i]? = some (some (.ref p)) ∧ S p = true ∧ H p = some (.lst vs) ∧ DqA K (hid S H) vs ds
  | .lock ds => ∃ p vs, σ[i]? = some (some (.ref p)) ∧ S p = true ∧ H p = some (.lst vs) ∧ DqA K (hid S H) vs ds
def Owns (σ : St) (ρ : En) (p : Addr) : Prop := ∃ (i : Nat) (s : Slot), ρ[i]? = some s ∧ isOwn s = true ∧ σ[i]? = some (some (.ref p))
structure EnOk (K : PySem.W.Frag) (S : Hd) (H : Hp) (σ : St) (ρ : En) : Prop where
  len : ρ.length = σ.length
  slot : ∀ (i : Nat) (s : Slot), ρ[i]? = some s → SlotOk K S H σ i s
  apart : ∀ (i j : Nat) (si sj : Slot) (p : Addr), i ≠ j → ρ[i]? = some si → ρ[j]? = some sj → isOwn si = true → isOwn sj = true → σ[i]? = some (some (.ref p)) → σ[j]? ≠ some (some (.ref p))
/-- what is owned later was owned before -/
def Sub (σ : St) (ρ ρ' : En) : Prop := ∀ p, Owns σ ρ' p → Owns σ ρ p
theorem Sub.refl {σ : St} {ρ : En} : Sub σ ρ ρ := fun _ h => h
theorem Sub.trans {σ : St} {ρ ρ1 ρ2 : En} (a : Sub σ ρ ρ1) (b : Sub σ ρ1 ρ2) : Sub σ ρ ρ2 := fun p h => a p (b p h)
def VOk (K : PySem.W.Frag) (H0 : Hp) (S : Hd) (H : Hp) (σ : St) (ρ : En) (v : V) : Val → Prop
  | .dat d => Dq K (hid S H) v d
  | .new ds => ∃ p vs, v = .ref p ∧ S p = true ∧ H p = some (.lst vs) ∧ DqA K (hid S H) vs ds ∧ ¬ Owns σ ρ p ∧ H0 p = none
section
variable {K : PySem.W.Frag} {S S' : Hd} {H H' : Hp} {σ : St} {ρ ρ' : En}
theorem SlotOk.step {i : Nat} {s : Slot} {O : Addr → Prop} (f : Fr S H O S' H') (h : SlotOk K S H σ i s) (hO : ∀ p, isOwn s = true → σ[i]? = some (some (.ref p)) → ¬ O p) : SlotOk K S' H' σ i s := by
  cases s with
  | no => trivial
  | dat d =>
    obtain ⟨v, e, h⟩ := h
    exact ⟨v, e, h.mono f.hid⟩
  | own ds =>
    obtain ⟨p, vs, e, hs, hp, h⟩ := h
    obtain ⟨q1, q2⟩ := f.hidn p hs (hO p rfl e)
    exact ⟨p, vs, e, q1, q2.trans hp, h.mono f.hid⟩
  | lock ds =>
    obtain ⟨p, vs, e, hs, hp, h⟩ := h
    obtain ⟨q1, q2⟩ := f.hidn p hs (hO p rfl e)
    exact ⟨p, vs, e, q1, q2.trans hp, h.mono f.hid⟩
theorem EnOk.step {O : Addr → Prop} (f : Fr S H O S' H') (h : EnOk K S H σ ρ) (hO : ∀ p, Owns σ ρ p → ¬ O p) : EnOk K S' H' σ ρ :=
  ⟨h.len, fun i s e => (h.slot i s e).step f fun p hs hp => hO p ⟨i, s, e, hs, hp⟩, h.apart⟩
theorem EnOk.step0 (f : Fr S H (fun _ => False) S' H') (h : EnOk K S H σ ρ) : EnOk K S' H' σ ρ := h.step f fun _ _ z => z
end
end Iv
end

section
set_option Elab.async false
set_option linter.all false
set_option maxRecDepth 100000
set_option maxHeartbeats 2000000
namespace Iv
open PySem L2

/-! ### the least that is to be shown -/
def WE (X : Cx) (e : Expr) : TE := fun σ H Q => ∀ (pins : List (Addr × Obj)) (s : Shared), Inv X pins σ H s → wpAny (model X.prog X.w) X.A (eval e X.env) (EP X pins σ Q) X.xe s
theorem pe_we {X : Cx} {e : Expr} : PE X e (WE X e) := ⟨fun pins s σ H Q I h => h pins s I⟩
theorem we_of {X : Cx} {e : Expr} {t : TE} {σ : St} {H : Hp} {Q : VK} (h : PE X e t) (q : t σ H Q) : WE X e σ H Q := fun pins s I => h.run pins s σ H Q I q
theorem we_mono {X : Cx} {e : Expr} {σ : St} {H : Hp} {Q Q' : VK} (h : WE X e σ H Q) (k : ∀ v H', Q v H' → Q' v H') : WE X e σ H Q' := fun pins s I =>
  thn (h pins s I) fun u s' ⟨v, H', I', r, q⟩ => ⟨v, H', I', r, k v H' q⟩
def RW (X : Cx) (f : Value → Value → Sem Value) : R2 := fun x y H Q => ∀ (pins : List (Addr × Obj)) (s : Shared) (σ : St) (v u : Value), Inv X pins σ H s → RelV x v → RelV y u → wpAny (model X.prog X.w) X.A (f v u) (EP X pins σ Q) X.xe s
theorem rw_ok {X : Cx} {f : Value → Value → Sem Value} : OpR X f (RW X f) := fun pins s σ H x y v u Q I rx ry h => h pins s σ v u I rx ry
theorem rw_of {X : Cx} {f : Value → Value → Sem Value} {r : R2} {x y : V} {H : Hp} {Q : VK} (h : OpR X f r) (q : r x y H Q) : RW X f x y H Q := fun pins s σ v u I rx ry => h pins s σ H x y v u Q I rx ry q
def CW (X : Cx) (f : Value) : List V → Hp → VK → Prop := fun xs H Q => ∀ (pins : List (Addr × Obj)) (s : Shared) (σ : St) (us : List Value), Inv X pins σ H s → Vals xs us → wpAny (model X.prog X.w) X.A (call f us) (EP X pins σ Q) X.xe s
theorem cw_ok {X : Cx} {f : Value} : CallR X f (CW X f) := fun pins s σ H xs us Q I r h => h pins s σ us I r
theorem cw_of {X : Cx} {f : Value} {r : List V → Hp → VK → Prop} {xs : List V} {H : Hp} {Q : VK} (h : CallR X f r) (q : r xs H Q) : CW X f xs H Q := fun pins s σ us I rx => h pins s σ H xs us Q I rx q

structure Cc where
  cl : Orc
  W : WX
  ca : Str → Value
def XOk (K : PySem.W.Frag) (S : Hd) (H : Hp) (d : Addr) (x : Exc) : Prop := ∃ fs : List (Str × V), H d = some (.xd fs) ∧ S d = false ∧ fs.map (·.1) = x.fs.map (·.1) ∧ DqA K (hid S H) (fs.map (·.2)) (x.fs.map (·.2))
def PostX (c : Cc) (K : PySem.W.Frag) (σ : St) (ρ : En) (S : Hd) (H : Hp) (x : Exc) (ρ' : En) : Prop := ∀ d S' H', Fr S H (Owns σ ρ) S' H' → EnOk K S' H' σ ρ' → Sub σ ρ ρ' → XOk K S' H' d x → c.W (c.ca x.cls) (some d) σ H'
def PostG {α β : Type} (c : Cc) (K : PySem.W.Frag) (σ : St) (ρ : En) (S : Hd) (H : Hp) (G : α → β → Hd → Hp → En → Prop) (Q : β → Hp → Prop) : R En (α × En) → Prop
  | .ok (a, ρ') => ∀ v S' H', Fr S H (Owns σ ρ) S' H' → EnOk K S' H' σ ρ' → Sub σ ρ ρ' → G a v S' H' ρ' → Q v H'
  | .exc x ρ' => PostX c K σ ρ S H x ρ'
  | .bad => False
def GE (K : PySem.W.Frag) (σ : St) (H : Hp) : Val → V → Hd → Hp → En → Prop := fun val v S' H' ρ' => VOk K H S' H' σ ρ' v val
/-- an operand's value: data, or a list that one name owns -/
def Dw (K : PySem.W.Frag) (S : Hd) (H : Hp) (v : V) (d : PyData) : Prop := Dq K (hid S H) v d ∨ ∃ p vs ds, v = .ref p ∧ d = .list ds ∧ H p = some (.lst vs) ∧ DqA K (hid S H) vs ds
def VwOk (K : PySem.W.Frag) (S : Hd) (H : Hp) (σ : St) (ρ : En) (e : E) (v : V) (d : PyData) : Prop := match e with
  | .var i => σ[i]? = some (some v) ∧ ∃ s, ρ[i]? = some s ∧ view s = some d
  | _ => Dq K (hid S H) v d
def GV (K : PySem.W.Frag) (σ : St) (e : E) : PyData → V → Hd → Hp → En → Prop := fun d v S' H' ρ' => VwOk K S' H' σ ρ' e v d
def SE (c : Cc) (X : Cx) (e : Expr) (x : E) : Prop := ∀ ρ S σ H Q, Dm S H → EnOk X.K S H σ ρ → PostG c X.K σ ρ S H (GE X.K σ H) Q (ev c.cl x ρ) → WE X e σ H Q
def SV (c : Cc) (X : Cx) (e : Expr) (x : E) : Prop := ∀ ρ S σ H Q, Dm S H → EnOk X.K S H σ ρ → PostG c X.K σ ρ S H (GV X.K σ x) Q (vwOf x ρ (ev c.cl x ρ)) → WE X e σ H Q
structure SX (c : Cc) (X : Cx) (e : Expr) (x : E) : Prop where
  se : SE c X e x
  sv : SV c X e x

section
variable {c : Cc} {K : PySem.W.Frag} {σ : St} {ρ ρ1 : En} {S S1 : Hd} {H H1 : Hp} {Q : VK}
theorem post_bnd {α β γ δ : Type} {G : α → γ → Hd → Hp → En → Prop} {G' : β → δ → Hd → Hp → En → Prop} {Q : γ → Hp → Prop} {Q' : δ → Hp → Prop} {r : R En (α × En)} {f : α → En → R En (β × En)} (h : PostG c K σ ρ S H G' Q' (bnd r f))
    (k : ∀ a ρ1, PostG c K σ ρ S H G' Q' (f a ρ1) → ∀ v S1 H1, Fr S H (Owns σ ρ) S1 H1 → EnOk K S1 H1 σ ρ1 → Sub σ ρ ρ1 → G a v S1 H1 ρ1 → Q v H1) : PostG c K σ ρ S H G Q r := by
  cases r with
  | ok a => exact fun v S1 H1 f1 e1 s1 g1 => k a.1 a.2 h v S1 H1 f1 e1 s1 g1
  | exc x ρ' => exact h
  | bad => exact h
theorem post_shift {α β : Type} {G G1 : α → β → Hd → Hp → En → Prop} {Q : β → Hp → Prop} {r : R En (α × En)} (f : Fr S H (Owns σ ρ) S1 H1) (s : Sub σ ρ ρ1) (h : PostG c K σ ρ S H G Q r)
    (hG : ∀ a v S' H' ρ', Fr S1 H1 (Owns σ ρ1) S' H' → G1 a v S' H' ρ' → G a v S' H' ρ') : PostG c K σ ρ1 S1 H1 G1 Q r := by
  have tr : ∀ {S' H'}, Fr S1 H1 (Owns σ ρ1) S' H' → Fr S H (Owns σ ρ) S' H' := fun g => f.trans g fun a z => .inl (s a z)
  cases r with
  | ok a => exact fun v S' H' f1 e1 s1 g1 => h v S' H' (tr f1) e1 (s.trans s1) (hG _ _ _ _ _ f1 g1)
  | exc x ρ' => exact fun d S' H' f1 e1 s1 g1 => h d S' H' (tr f1) e1 (s.trans s1) g1
  | bad => exact h
theorem vok_back {v : V} {val : Val} {S' : Hd} {H' : Hp} {ρ' : En} {O : Addr → Prop} (f : Fr S H O S1 H1) (h : VOk K H1 S' H' σ ρ' v val) : VOk K H S' H' σ ρ' v val := by
  cases val with
  | dat d => exact h
  | new ds =>
    obtain ⟨p, vs, e1, e2, e3, e4, e5, e6⟩ := h
    exact ⟨p, vs, e1, e2, e3, e4, e5, f.fresh e6⟩
/-- the same for an expression's own outcome -/
theorem post_shiftE {r : R En (Val × En)} (f : Fr S H (Owns σ ρ) S1 H1) (s : Sub σ ρ ρ1) (h : PostG c K σ ρ S H (GE K σ H) Q r) : PostG c K σ ρ1 S1 H1 (GE K σ H1) Q r :=
  post_shift f s h fun _ _ _ _ _ _ g => vok_back f g
theorem Dw.dq {v : V} {d : PyData} (h : Dw K S H v d) : Dq K H v d := by
  rcases h with h | ⟨p, vs, ds, rfl, rfl, h1, h2⟩
  · exact h.mono hid_ext
  · exact .lst h1 (h2.mono hid_ext)
theorem Dw.lst {v : V} {ds : List PyData} (h : Dw K S H v (.list ds)) : ∃ p vs, v = .ref p ∧ H p = some (.lst vs) ∧ DqA K (hid S H) vs ds := by
  rcases h with h | ⟨p, vs, ds', rfl, e, h1, h2⟩
  · cases h with
    | lst h1 h2 => exact ⟨_, _, rfl, (hid_of h1).2, h2⟩
  · cases e; exact ⟨p, vs, rfl, h1, h2⟩
theorem Dw.tup {v : V} {ds : List PyData} (h : Dw K S H v (.tuple ds)) : ∃ p vs, v = .ref p ∧ SqT K H p vs ∧ DqA K (hid S H) vs ds ∧ Dq K (hid S H) v (.tuple ds) := by
  rcases h with h | ⟨p, vs, ds', rfl, e, h1, h2⟩
  · have h0 := h
    cases h with
    | tup h1 h2 => exact ⟨_, _, rfl, sqT_ext hid_ext h1.t, h2, h0⟩
  · cases e
theorem Dw.tupS {v : V} {ds : List PyData} (h : Dw K S H v (.tuple ds)) : ∃ p vs, v = .ref p ∧ SqS K H p vs ∧ DqA K (hid S H) vs ds := by
  rcases h with h | ⟨p, vs, ds', rfl, e, h1, h2⟩
  · cases h with
    | tup h1 h2 => exact ⟨_, _, rfl, sqS_ext hid_ext h1, h2⟩
  · cases e
theorem Dw.int {v : V} {i : Int} (h : Dw K S H v (.int i)) : v = .int i := by
  have q := h.dq
  cases q; rfl
theorem Dw.bool {v : V} {b : Bool} (h : Dw K S H v (.bool b)) : v = .bl b := by
  have q := h.dq
  cases q; rfl
theorem Dw.str {v : V} {b : Str} (h : Dw K S H v (.str b)) : v = .str b := by
  have q := h.dq
  cases q; rfl
theorem Dw.non {v : V} (h : Dw K S H v .none) : v = .non := by
  have q := h.dq
  cases q; rfl
def isVar : E → Bool
  | .var _ => true
  | _ => false
theorem vw_dat {e : E} {v : V} {d : PyData} (h : isVar e = false) : VwOk K S H σ ρ e v d = Dq K (hid S H) v d := by
  cases e <;> first | rfl | cases h
theorem re_dat {e : E} {d : PyData} (h : isVar e = false) : reD e ρ d = some d := by
  cases e <;> first | rfl | cases h
theorem vwOf_dat {e : E} {r : R En (Val × En)} (h : isVar e = false) : vwOf e ρ r = r.map fun p => (p.1.d, p.2) := by
  cases e <;> first | (cases r <;> rfl) | cases h
/-- an operand, looked at later -/
theorem VwOk.later {e : E} {v : V} {d d' : PyData} {ρ2 : En} {S2 : Hd} {H2 : Hp} {O : Addr → Prop} (h : VwOk K S H σ ρ e v d) (f : Fr S H O S2 H2) (en : EnOk K S2 H2 σ ρ2) (r : reD e ρ2 d = some d') : Dw K S2 H2 v d' := by
  cases hv : isVar e with
  | false =>
    rw [re_dat hv] at r
    rw [vw_dat hv] at h
    cases r
    exact .inl (h.mono f.hid)
  | true =>
    cases e with
    | var i =>
      obtain ⟨h1, s, h2, h3⟩ := h
      have r : (match ρ2[i]? with | some s => view s | none => none) = some d' := r
      cases e2 : ρ2[i]? with
      | none => rw [e2] at r; cases r
      | some s2 =>
        rw [e2] at r
        have q := en.slot _ s2 e2
        cases s2 with
        | no => cases r
        | dat d2 =>
          cases r
          obtain ⟨v', e3, q⟩ := q
          rw [h1] at e3; cases e3
          exact .inl q
        | own ds =>
          cases r
          obtain ⟨p, vs, e3, _, q1, q2⟩ := q
          rw [h1] at e3; cases e3
          exact .inr ⟨p, vs, ds, rfl, rfl, q1, q2⟩
        | lock ds =>
          cases r
          obtain ⟨p, vs, e3, _, q1, q2⟩ := q
          rw [h1] at e3; cases e3
          exact .inr ⟨p, vs, ds, rfl, rfl, q1, q2⟩
    | _ => cases hv
theorem VwOk.now {e : E} {v : V} {d : PyData} (h : VwOk K S H σ ρ e v d) (hd : Dm S H) (en : EnOk K S H σ ρ) : Dw K S H v d := by
  have r : reD e ρ d = some d := by
    cases hv : isVar e with
    | false => exact re_dat hv
    | true =>
      cases e with
      | var i =>
        obtain ⟨_, s, h2, h3⟩ := h
        show (match ρ[i]? with | some s => view s | none => none) = some d
        rw [h2]
        exact h3
      | _ => cases hv
  exact h.later (Fr.refl (O := fun _ => False) hd) en r
/-- what a primitive gives -/
def PV (K : PySem.W.Frag) (H : Hp) (S' : Hd) (H' : Hp) (w : V) : Val → Prop
  | .dat d => Dq K (hid S' H') w d
  | .new ds => ∃ p vs, w = .ref p ∧ S' p = true ∧ H' p = some (.lst vs) ∧ DqA K (hid S' H') vs ds ∧ H p = none
theorem pv_vok {w : V} {val : Val} {S' : Hd} {H' : Hp} (en : EnOk K S H σ ρ) (h : PV K H S' H' w val) : VOk K H S' H' σ ρ w val := by
  cases val with
  | dat d => exact h
  | new ds =>
    obtain ⟨p, vs, e1, e2, e3, e4, e5⟩ := h
    refine ⟨p, vs, e1, e2, e3, e4, fun ⟨i, s, h1, h2, h3⟩ => ?_, e5⟩
    have q := en.slot i s h1
    cases s with
    | no => cases h2
    | dat d => cases h2
    | own ds =>
      obtain ⟨p', vs, e, _, q, _⟩ := q
      rw [h3] at e; cases e
      rw [e5] at q; cases q
    | lock ds =>
      obtain ⟨p', vs, e, _, q, _⟩ := q
      rw [h3] at e; cases e
      rw [e5] at q; cases q
end
end Iv
end

section
set_option Elab.async false
set_option linter.all false
set_option maxRecDepth 100000
set_option maxHeartbeats 2000000
namespace Iv
open PySem L2

theorem big_le {n : Nat} (h : n ≤ big) : n ≤ sizeLine := Nat.le_trans h (by decide)
section
variable {c : Cc} {X : Cx} {σ : St} {ρ : En} {S : Hd} {H : Hp} {Q : VK} {e a b t : Expr} {x ia ib it : E} {pos : Pos}

/-! ### from an expression to an operand -/
theorem sv_of (h : SE c X e x) (hv : isVar x = false) : SV c X e x := by
  intro ρ S σ H Q hd en hp
  rw [vwOf_dat hv] at hp
  refine h ρ S σ H Q hd en ?_
  cases hr : ev c.cl x ρ with
  | bad => rw [hr] at hp; exact hp
  | exc z ρ' => rw [hr] at hp; exact hp
  | ok r =>
    obtain ⟨val, ρ'⟩ := r
    rw [hr] at hp
    intro v S' H' f en' sb g
    cases val with
    | dat d => exact hp v S' H' f en' sb (by unfold GV; rw [vw_dat hv]; exact g)
    | new ds =>
      obtain ⟨p, vs, e1, e2, e3, e4, e5, e6⟩ := g
      -- the new list becomes known to all
      have f2 : Fr S' H' (fun q => q = p) (bare S' p) H' := Fr.show f.dm rfl
      have f3 : Fr S H (Owns σ ρ) (bare S' p) H' := f.trans f2 fun a z => .inr (by subst z; exact e6)
      refine hp v (bare S' p) H' f3 (en'.step f2 fun q z w => e5 (by subst w; exact z)) sb ?_
      unfold GV
      rw [vw_dat hv, e1]
      exact .lst (hid_some bare_same e3) (e4.mono f2.hid)
theorem sx_of (h : SE c X e x) (hv : isVar x = false) : SX c X e x := ⟨h, sv_of h hv⟩

/-! ### names and constants -/
theorem sx_var {i : Nat} (h : PE X e (tVar i)) : SX c X e (.var i) := by
  refine ⟨fun ρ S σ H Q hd en hp => ?_, fun ρ S σ H Q hd en hp => ?_⟩
  · have hp : PostG c X.K σ ρ S H (GE X.K σ H) Q (match ρ[i]? with
      | some (.dat d) => .ok (.dat d, ρ)
      | some (.own ds) => .ok (.dat (.list ds), ρ.set i (.dat (.list ds)))
      | _ => .bad) := hp
    cases hi : ρ[i]? with
    | none => rw [hi] at hp; exact hp.elim
    | some s =>
      rw [hi] at hp
      have q := en.slot i s hi
      cases s with
      | no => exact hp.elim
      | lock ds => exact hp.elim
      | dat d =>
        obtain ⟨v, e1, q⟩ := q
        exact we_of h ⟨v, e1, hp v S H (Fr.refl hd) en Sub.refl q⟩
      | own ds =>
        obtain ⟨p, vs, e1, e2, e3, e4⟩ := q
        have hO : Owns σ ρ p := ⟨i, _, hi, rfl, e1⟩
        have f2 : Fr S H (fun q => q = p) (bare S p) H := Fr.show hd rfl
        have hil : i < ρ.length := (List.getElem?_eq_some_iff.mp hi).1
        have D : Dq X.K (hid (bare S p) H) (.ref p) (.list ds) := .lst (hid_some bare_same e3) (e4.mono f2.hid)
        have back : ∀ (j : Nat) (s : Slot), (ρ.set i (.dat (.list ds)))[j]? = some s → j = i ∧ s = .dat (.list ds) ∨ j ≠ i ∧ ρ[j]? = some s := fun j s hj => by
          by_cases z : i = j
          · subst z
            rw [List.getElem?_set_self hil] at hj
            cases hj
            exact .inl ⟨rfl, rfl⟩
          · rw [List.getElem?_set_ne z] at hj
            exact .inr ⟨fun w => z w.symm, hj⟩
        refine we_of h ⟨.ref p, e1, hp _ (bare S p) H (f2.imp fun q z => by subst z; exact hO) ⟨by rw [List.length_set]; exact en.len, fun j s hj => ?_, fun j k sj sk q njk hj hk oj ok' ej => ?_⟩ (fun q ⟨j, s, hj, oj, ej⟩ => ?_) D⟩
        · rcases back j s hj with ⟨rfl, rfl⟩ | ⟨nj, hj⟩
          · exact ⟨_, e1, D⟩
          · refine (en.slot j s hj).step f2 fun q oj ej z => ?_
            subst z
            exact en.apart j i s _ q nj hj hi oj rfl ej e1
        · rcases back j sj hj with ⟨rfl, rfl⟩ | ⟨nj, hj⟩
          · cases oj
          · rcases back k sk hk with ⟨rfl, rfl⟩ | ⟨nk, hk⟩
            · cases ok'
            · exact en.apart j k sj sk q njk hj hk oj ok' ej
        · rcases back j s hj with ⟨rfl, rfl⟩ | ⟨nj, hj⟩
          · cases oj
          · exact ⟨j, s, hj, oj, ej⟩
  · have hp : PostG c X.K σ ρ S H (GV X.K σ (.var i)) Q (match ρ[i]? with
      | some s => ofO ρ (view s)
      | none => .bad) := hp
    cases hi : ρ[i]? with
    | none => rw [hi] at hp; exact hp.elim
    | some s =>
      rw [hi] at hp
      have q := en.slot i s hi
      cases s with
      | no => exact hp.elim
      | lock ds =>
        obtain ⟨p, vs, e1, e2, e3, e4⟩ := q
        exact we_of h ⟨_, e1, hp _ S H (Fr.refl hd) en Sub.refl ⟨e1, _, hi, rfl⟩⟩
      | dat d =>
        obtain ⟨v, e1, q⟩ := q
        exact we_of h ⟨v, e1, hp v S H (Fr.refl hd) en Sub.refl ⟨e1, _, hi, rfl⟩⟩
      | own ds =>
        obtain ⟨p, vs, e1, e2, e3, e4⟩ := q
        exact we_of h ⟨_, e1, hp _ S H (Fr.refl hd) en Sub.refl ⟨e1, _, hi, rfl⟩⟩
/-- a constant: v is its value -/
theorem sx_c {d : PyData} {v : V} (h : PE X e (tC v)) (hv : ∀ H : Hp, Dq X.K H v d) : SX c X e (.c d) :=
  sx_of (fun ρ S σ H Q hd en hp => we_of h (hp v S H (Fr.refl hd) en Sub.refl (hv _))) rfl
theorem sx_int {i : Int} {j : Nat} : SX c X (.Constant (.int i) j pos) (.c (.int i)) := sx_c pe_int fun _ => .int i
theorem sx_bool {i : Bool} {j : Nat} : SX c X (.Constant (.bool i) j pos) (.c (.bool i)) := sx_c pe_bl fun _ => .bl i
theorem sx_none {j : Nat} : SX c X (.Constant .none j pos) (.c .none) := sx_c pe_non fun _ => .non
theorem sx_str {i : Str} {j : Nat} : SX c X (.Constant (.str i) j pos) (.c (.str i)) := sx_c pe_str fun _ => .str i

/-! ### a primitive's end -/
/-- what stands behind a primitive that gives val (or nothing known: bad) -/
theorem prim {o : Option Val} (hd : Dm S H) (en : EnOk X.K S H σ ρ) (h : PostG c X.K σ ρ S H (GE X.K σ H) Q (ofO ρ o)) :
    ∃ val, o = some val ∧ ∀ w S' H', Fr S H (fun _ => False) S' H' → PV X.K H S' H' w val → Q w H' := by
  cases o with
  | none => exact h.elim
  | some val => exact ⟨val, rfl, fun w S' H' f g => h w S' H' (f.imp fun _ z => z.elim) (en.step0 f) Sub.refl (by
      have q := pv_vok (ρ := ρ) en g
      exact q)⟩

/-! ### operators -/
def opOf : Operator → Option Op
  | .Add => some .add
  | .Sub => some .sub
  | .Mult => some .mul
  | .FloorDiv => some .fdiv
  | .Mod => some .mod
  | .Pow => some .pow
  | _ => none
theorem op_sound {op : Operator} {o : Op} {u v : V} {d d' : PyData} {val : Val} (ho : opOf op = some o) (hv : opD o d d' = some val) (hd : Dm S H) (hx : Dw X.K S H u d) (hy : Dw X.K S H v d')
    (q : ∀ w S' H', Fr S H (fun _ => False) S' H' → PV X.K H S' H' w val → Q w H') : RW X (binaryOp op) u v H Q := by
  have r0 : Fr S H (fun _ => False) S H := Fr.refl hd
  unfold opD at hv
  split at hv
  all_goals (cases op <;> first | (cases ho; done) | skip)
  all_goals first | (injection ho with ho; cases ho; done) | skip
  · cases hv; rw [hx.int, hy.int]; exact rw_of op_add ⟨_, _, rfl, rfl, q _ S H r0 (.int _)⟩
  · cases hv; rw [hx.int, hy.int]; exact rw_of op_sub ⟨_, _, rfl, rfl, q _ S H r0 (.int _)⟩
  · split at hv
    · rename_i hc; cases hv; rw [hx.int, hy.int]; exact rw_of op_mul ⟨_, _, rfl, rfl, hc, q _ S H r0 (.int _)⟩
    · cases hv
  · split at hv
    · rename_i hc; cases hv; rw [hx.int, hy.int]; exact rw_of op_fdiv ⟨_, _, rfl, rfl, hc, q _ S H r0 (.int _)⟩
    · cases hv
  · split at hv
    · rename_i hc; cases hv; rw [hx.int, hy.int]; exact rw_of op_mod ⟨_, _, rfl, rfl, hc, q _ S H r0 (.int _)⟩
    · cases hv
  · split at hv
    · rename_i hc; cases hv; rw [hx.int, hy.int]; exact rw_of op_pow ⟨_, _, rfl, rfl, ⟨hc.1, by omega, hc.2.2⟩, q _ S H r0 (.int _)⟩
    · cases hv
  · split at hv
    · rename_i hc; cases hv; rw [hx.str, hy.str]; exact rw_of op_add_str ⟨_, _, rfl, rfl, big_le hc, q _ S H r0 (.str _)⟩
    · cases hv
  · split at hv
    · rename_i hc; cases hv
      obtain ⟨p, vs, rfl, h1, h2⟩ := hx.lst
      obtain ⟨p', vs', rfl, h1', h2'⟩ := hy.lst
      refine rw_of op_cat ⟨p, p', vs, vs', rfl, rfl, h1, h1', by rw [h2.length, h2'.length]; exact big_le hc, fun l hl => ?_⟩
      have f := Fr.allocH (O := fun _ => False) (o := .lst (vs ++ vs')) hd hl
      exact q _ _ _ f ⟨l, _, rfl, hide_same, upd_same, (h2.append h2').mono f.hid, hl⟩
    · cases hv
  · split at hv
    · rename_i hc; cases hv
      obtain ⟨p, vs, rfl, h1, h2, h3⟩ := hx.tup
      obtain ⟨p', vs', rfl, h1', h2', h3'⟩ := hy.tup
      refine rw_of op_catS ⟨p, p', vs, vs', rfl, rfl, h1, h1', by rw [h2.length, h2'.length]; exact big_le hc, fun z => ?_, fun _ z => ?_, fun _ _ l ob hl ho => ?_⟩
      · subst z; cases h2; exact q _ S H r0 (show Dq _ _ _ _ by simpa using h3')
      · subst z; cases h2'; exact q _ S H r0 (show Dq _ _ _ _ by simpa using h3)
      · have f := Fr.alloc (O := fun _ => False) (o := .frz ob (.tup (vs ++ vs'))) hd hl
        refine q _ _ _ f (.tup (sqS_new ?_ ho) ((h2.append h2').mono f.hid))
        cases hs : S l with
        | false => rfl
        | true => exact absurd hl (hd l hs)
    · cases hv
  · split at hv
    · rename_i xs k hc; cases hv
      obtain ⟨p, vs, rfl, h1, h2⟩ := hx.lst
      rw [hy.int]
      refine rw_of op_rep ⟨p, _, vs, rfl, rfl, h1, by omega, by omega, by rw [h2.length]; exact big_le hc.2.1, fun l hl => ?_⟩
      have f := Fr.allocH (O := fun _ => False) (o := .lst (List.replicate k.toNat vs).flatten) hd hl
      exact q _ _ _ f ⟨l, _, rfl, hide_same, upd_same, h2.flatten.mono f.hid, hl⟩
    · cases hv
  · split at hv
    · rename_i xs k hc; cases hv
      obtain ⟨p, vs, rfl, h1, h2, h3⟩ := hx.tup
      rw [hy.int]
      refine rw_of op_repS ⟨p, _, vs, rfl, rfl, h1, fun z => hc.1 ?_, hc.2.1, hc.2.2.1, by rw [h2.length]; exact hc.2.2.2, fun e1 => ?_, fun _ l ob hl ho => ?_⟩
      · subst z; cases h2; rfl
      · subst e1; exact q _ S H r0 (show Dq _ _ _ _ by simpa using h3)
      · have f := Fr.alloc (O := fun _ => False) (o := .frz ob (.tup (List.replicate k.toNat vs).flatten)) hd hl
        refine q _ _ _ f (.tup (sqS_new ?_ ho) (h2.flatten.mono f.hid))
        cases hs : S l with
        | false => rfl
        | true => exact absurd hl (hd l hs)
    · cases hv
  all_goals cases hv
theorem sx_op {op : Operator} {o : Op} (ha : SX c X a ia) (hb : SX c X b ib) (ho : opOf op = some o) : SX c X (.BinOp a op b pos) (.op o ia ib) := by
  refine sx_of (fun ρ S σ H Q hd en hp => ?_) rfl
  refine we_of (pe_op rw_ok pe_we pe_we) ?_
  refine ha.sv ρ S σ H _ hd en (post_bnd hp fun x ρ1 h1 u S1 H1 f1 en1 s1 g1 => ?_)
  refine hb.sv ρ1 S1 σ H1 _ f1.dm en1 (post_bnd (post_shiftE f1 s1 h1) fun y ρ2 h2 v S2 H2 f2 en2 s2 g2 => ?_)
  have h2 := post_shiftE f2 s2 h2

  cases hr : reD ia ρ2 x with
  | none => rw [hr] at h2; exact h2.elim
  | some x' =>
    rw [hr] at h2
    obtain ⟨val, e1, q⟩ := prim f2.dm en2 h2
    exact op_sound ho e1 f2.dm (g1.later f2 en2 hr) (g2.now f2.dm en2) q
end
end Iv
end

section
set_option Elab.async false
set_option linter.all false
set_option maxRecDepth 100000
set_option maxHeartbeats 2000000
namespace Iv
open PySem L2
section
variable {c : Cc} {X : Cx} {σ : St} {ρ : En} {S : Hd} {H : Hp} {Q : VK} {e a b t : Expr} {x ia ib ic it : E} {pos : Pos}

/-! ### comparisons -/
def cmOf : CmpOp → Option Cm
  | .Eq => some .eq
  | .NotEq => some .ne
  | .Lt => some .lt
  | .LtE => some .le
  | .Gt => some .gt
  | .GtE => some .ge
  | .Is => some .is_
  | .IsNot => some .isnot
  | .In => some .in_
  | .NotIn => some .notin
theorem shaped_lay {d : PyData} (h : SeqAt.shaped d = true) : d.canLay0 = true := by
  unfold SeqAt.shaped at h
  rw [Bool.and_eq_true] at h
  exact h.1
theorem flat_v {K : PySem.W.Frag} {v : V} {d : PyData} (h : Dq K H v d) (f : flat d = true) : flatV v = true := by
  cases h <;> first | rfl | cases f
theorem flat_eq {K : PySem.W.Frag} {v u : V} {d e : PyData} (h : Dq K H v d) (h' : Dq K H u e) (f : flat d = true) (f' : flat e = true) : eqV v u = PyData.eqv d e := by
  cases h <;> first | (cases f; done) | (cases h' <;> first | (cases f'; done) | rfl)
theorem flat_all {K : PySem.W.Frag} : ∀ {ds : List PyData} {vs : List V}, DqA K H vs ds → ds.all flat = true → vs.all flatV = true
  | [], _, h, _ => by cases h; rfl
  | d :: ds, _, h, f => by
    cases h with
    | cons h1 h2 =>
      rw [List.all_cons, Bool.and_eq_true] at f ⊢
      exact ⟨flat_v h1 f.1, flat_all h2 f.2⟩
theorem flat_any {K : PySem.W.Frag} {u : V} {e : PyData} (hu : Dq K H u e) (fe : flat e = true) : ∀ {ds : List PyData} {vs : List V}, DqA K H vs ds → ds.all flat = true → inV u vs = ds.any fun y => PyData.eqv y e
  | [], _, h, _ => by cases h; rfl
  | d :: ds, _, h, f => by
    cases h with
    | cons h1 h2 =>
      rw [List.all_cons, Bool.and_eq_true] at f
      have q := flat_any hu fe h2 f.2
      unfold inV at q ⊢
      rw [List.any_cons, List.any_cons, q, flat_eq h1 hu f.1 fe]
theorem dq_non {K : PySem.W.Frag} {v : V} {d : PyData} (h : Dq K H v d) : decide (v = .non) = isNone d := by
  cases h <;> rfl
theorem eqI {i j : Int} : decide (V.int i = V.int j) = PyData.eqv (.int i) (.int j) := by
  show decide (V.int i = V.int j) = (i == j)
  rw [Bool.eq_iff_iff]; simp
theorem eqS {i j : Str} : decide (V.str i = V.str j) = PyData.eqv (.str i) (.str j) := by
  show decide (V.str i = V.str j) = (i == j)
  rw [Bool.eq_iff_iff]; simp
theorem eqB {i j : Bool} : decide (V.bl i = V.bl j) = PyData.eqv (.bool i) (.bool j) := by
  show decide (V.bl i = V.bl j) = (i == j)
  rw [Bool.eq_iff_iff]; simp
theorem cm_sound {op : CmpOp} {o : Cm} {u v : V} {d d' : PyData} {r : Bool} (ho : cmOf op = some o) (hr : cmD o d d' = some r) (hu : X.A.units + 65 < cLine) (hx : Dw X.K S H u d) (hy : Dw X.K S H v d') (q : Q (.bl r) H) : RW X (compareOp op) u v H Q := by
  cases op <;> cases ho
  · unfold cmD at hr
    simp only at hr
    split at hr
    · rename_i hc; cases hr
      unfold okEq at hc
      split at hc
      · rw [hx.int, hy.int]; exact rw_of op_eq ⟨rfl, by rw [eqI]; exact q⟩
      · rw [hx.str, hy.str]; exact rw_of op_eq ⟨rfl, by rw [eqS]; exact q⟩
      · rw [hx.bool, hy.bool]; exact rw_of op_eq ⟨rfl, by rw [eqB]; exact q⟩
      · rw [Bool.and_eq_true] at hc
        exact rw_of (op_eqD (Nat.lt_of_succ_lt hu)) ⟨_, _, Dq.dp _ _ (shaped_lay hc.1) hx.dq, Dq.dp _ _ (shaped_lay hc.2) hy.dq, hc.1, hc.2, q⟩
    · cases hr
  · unfold cmD at hr
    simp only at hr
    split at hr
    · rename_i hc; cases hr
      unfold okEq at hc
      split at hc
      · rw [hx.int, hy.int]; exact rw_of op_ne ⟨rfl, by rw [eqI]; exact q⟩
      · rw [hx.str, hy.str]; exact rw_of op_ne ⟨rfl, by rw [eqS]; exact q⟩
      · rw [hx.bool, hy.bool]; exact rw_of op_ne ⟨rfl, by rw [eqB]; exact q⟩
      · rw [Bool.and_eq_true] at hc
        exact rw_of (op_neD (Nat.lt_of_succ_lt hu)) ⟨_, _, Dq.dp _ _ (shaped_lay hc.1) hx.dq, Dq.dp _ _ (shaped_lay hc.2) hy.dq, hc.1, hc.2, q⟩
    · cases hr
  · unfold cmD at hr
    split at hr <;> first | (cases hr; done) | skip
    all_goals first | contradiction | skip
    cases hr; rw [hx.int, hy.int]; exact rw_of op_lt ⟨_, _, rfl, rfl, q⟩
  · unfold cmD at hr
    split at hr <;> first | (cases hr; done) | skip
    all_goals first | contradiction | skip
    cases hr; rw [hx.int, hy.int]; exact rw_of op_le ⟨_, _, rfl, rfl, q⟩
  · unfold cmD at hr
    split at hr <;> first | (cases hr; done) | skip
    all_goals first | contradiction | skip
    cases hr; rw [hx.int, hy.int]; exact rw_of op_gt ⟨_, _, rfl, rfl, q⟩
  · unfold cmD at hr
    split at hr <;> first | (cases hr; done) | skip
    all_goals first | contradiction | skip
    cases hr; rw [hx.int, hy.int]; exact rw_of op_ge ⟨_, _, rfl, rfl, q⟩
  · unfold cmD at hr
    split at hr <;> first | (cases hr; done) | skip
    all_goals first | contradiction | skip
    · cases hr
      refine rw_of op_isN ⟨hy.non, ?_⟩
      rw [dq_non hx.dq]; exact q
    · cases hr; rw [hx.bool, hy.bool]; exact rw_of op_isBl ⟨_, _, rfl, rfl, q⟩
  · unfold cmD at hr
    split at hr <;> first | (cases hr; done) | skip
    all_goals first | contradiction | skip
    · cases hr
      refine rw_of op_notN ⟨hy.non, ?_⟩
      rw [dq_non hx.dq]; exact q
    · cases hr; rw [hx.bool, hy.bool]; exact rw_of op_notBl ⟨_, _, rfl, rfl, q⟩
  · unfold cmD at hr
    split at hr <;> first | (cases hr; done) | skip
    all_goals first | contradiction | skip
    · split at hr
      · rename_i hc; cases hr
        obtain ⟨p, vs, rfl, h1, h2⟩ := hy.lst
        have h2 := h2.mono hid_ext
        refine rw_of op_in_seq ⟨p, vs, rfl, .inl (SqL.of h1), flat_v hx.dq hc.1, flat_all h2 hc.2, ?_⟩
        show Q (.bl (if false = true then _ else inV u vs)) H
        rw [if_neg Bool.false_ne_true, flat_any hx.dq hc.1 h2 hc.2]; exact q
      · split at hr
        · rename_i hc; cases hr
          exact rw_of (op_inD hu) ⟨_, _, Dq.dp _ _ (shaped_lay hc.1) hx.dq, Dq.dp _ _ (shaped_lay hc.2) hy.dq, hc.1, hc.2, q⟩
        · cases hr
    · split at hr
      · rename_i hc; cases hr
        obtain ⟨p, vs, rfl, h1, h2, _⟩ := hy.tup
        have h2 := h2.mono hid_ext
        refine rw_of op_in_seq ⟨p, vs, rfl, .inr h1, flat_v hx.dq hc.1, flat_all h2 hc.2, ?_⟩
        show Q (.bl (if false = true then _ else inV u vs)) H
        rw [if_neg Bool.false_ne_true, flat_any hx.dq hc.1 h2 hc.2]; exact q
      · cases hr
  · unfold cmD at hr
    split at hr <;> first | (cases hr; done) | skip
    all_goals first | contradiction | skip
    · split at hr
      · rename_i hc; cases hr
        obtain ⟨p, vs, rfl, h1, h2⟩ := hy.lst
        have h2 := h2.mono hid_ext
        refine rw_of op_notIn_seq ⟨p, vs, rfl, .inl (SqL.of h1), flat_v hx.dq hc.1, flat_all h2 hc.2, ?_⟩
        show Q (.bl (if true = true then !inV u vs else _)) H
        rw [if_pos rfl, flat_any hx.dq hc.1 h2 hc.2]; exact q
      · split at hr
        · rename_i hc; cases hr
          exact rw_of (op_notInD hu) ⟨_, _, Dq.dp _ _ (shaped_lay hc.1) hx.dq, Dq.dp _ _ (shaped_lay hc.2) hy.dq, hc.1, hc.2, q⟩
        · cases hr
    · split at hr
      · rename_i hc; cases hr
        obtain ⟨p, vs, rfl, h1, h2, _⟩ := hy.tup
        have h2 := h2.mono hid_ext
        refine rw_of op_notIn_seq ⟨p, vs, rfl, .inr h1, flat_v hx.dq hc.1, flat_all h2 hc.2, ?_⟩
        show Q (.bl (if true = true then !inV u vs else _)) H
        rw [if_pos rfl, flat_any hx.dq hc.1 h2 hc.2]; exact q
      · cases hr
/-- a primitive that gives a truth value -/
theorem primB {o : Option Bool} (hd : Dm S H) (en : EnOk X.K S H σ ρ) (h : PostG c X.K σ ρ S H (GE X.K σ H) Q (ofO ρ (o.map fun b => .dat (.bool b)))) : ∃ r, o = some r ∧ Q (.bl r) H := by
  cases o with
  | none => exact h.elim
  | some r => exact ⟨r, rfl, h _ S H (Fr.refl hd) en Sub.refl (.bl r)⟩
theorem cm_core {op : CmpOp} {o : Cm} (ha : SX c X a ia) (hb : SX c X b ib) (ho : cmOf op = some o) (hu : X.A.units + 65 < cLine) (hd : Dm S H) (en : EnOk X.K S H σ ρ) (hp : PostG c X.K σ ρ S H (GE X.K σ H) Q (ev c.cl (.cm o ia ib) ρ)) : tOp (RW X (compareOp op)) (WE X a) (WE X b) σ H Q := by
  refine ha.sv ρ S σ H _ hd en (post_bnd hp fun x ρ1 h1 u S1 H1 f1 en1 s1 g1 => ?_)
  refine hb.sv ρ1 S1 σ H1 _ f1.dm en1 (post_bnd (post_shiftE f1 s1 h1) fun y ρ2 h2 v S2 H2 f2 en2 s2 g2 => ?_)
  have h2 := post_shiftE f2 s2 h2
  cases hr : reD ia ρ2 x with
  | none => rw [hr] at h2; exact h2.elim
  | some x' =>
    rw [hr] at h2
    obtain ⟨r, e1, q⟩ := primB f2.dm en2 h2
    exact cm_sound ho e1 hu (g1.later f2 en2 hr) (g2.now f2.dm en2) q
theorem sx_cm {op : CmpOp} {o : Cm} (ha : SX c X a ia) (hb : SX c X b ib) (ho : cmOf op = some o) (hu : X.A.units + 65 < cLine) (hm : behindInMarks op b = false) : SX c X (.Compare a [op] [b] pos) (.cm o ia ib) :=
  sx_of (fun ρ S σ H Q hd en hp => we_of (pe_cmpR rw_ok pe_we pe_we hm) (cm_core ha hb ho hu hd en hp)) rfl
theorem cmI_sound {op : CmpOp} {o : Cm} {i j : Int} {r : Bool} (ho : cmOf op = some o) (hr : cmI o i j = some r) (q : Q (.bl r) H) : RW X (compareOp op) (.int i) (.int j) H Q := by
  cases op <;> cases ho <;> first | (cases hr; done) | skip
  · cases hr; exact rw_of op_lt ⟨_, _, rfl, rfl, q⟩
  · cases hr; exact rw_of op_le ⟨_, _, rfl, rfl, q⟩
  · cases hr; exact rw_of op_gt ⟨_, _, rfl, rfl, q⟩
  · cases hr; exact rw_of op_ge ⟨_, _, rfl, rfl, q⟩
/-- a < b < c, of numbers -/
theorem ch_core {d : Expr} {op op' : CmpOp} {o o' : Cm} (ha : SX c X a ia) (hb : SX c X b ib) (hc : SX c X d ic) (ho : cmOf op = some o) (ho' : cmOf op' = some o') (hd : Dm S H) (en : EnOk X.K S H σ ρ) (hp : PostG c X.K σ ρ S H (GE X.K σ H) Q (ev c.cl (.ch o o' ia ib ic) ρ)) : tChain (RW X (compareOp op)) (RW X (compareOp op')) (WE X a) (WE X b) (WE X d) σ H Q := by
  refine ha.sv ρ S σ H _ hd en (post_bnd hp fun x ρ1 h1 u S1 H1 f1 en1 s1 g1 => ?_)
  refine hb.sv ρ1 S1 σ H1 _ f1.dm en1 (post_bnd (post_shiftE f1 s1 h1) fun y ρ2 h2 v S2 H2 f2 en2 s2 g2 => ?_)
  have h2 := post_shiftE f2 s2 h2
  cases x with
  | int i =>
    cases y with
    | int j =>
      have eu : u = .int i := (g1.now f1.dm en1).int
      have ev' : v = .int j := (g2.now f2.dm en2).int
      subst eu; subst ev'
      have h2 : PostG c X.K σ ρ2 S2 H2 (GE X.K σ H2) Q (match cmI o i j with
        | some true => bnd (vwOf ic ρ2 (ev c.cl ic ρ2)) fun z ρ3 => match z with
          | .int k => ofO ρ3 ((cmI o' j k).map fun b => .dat (.bool b))
          | _ => .bad
        | some false => .ok (.dat (.bool false), ρ2)
        | none => .bad) := h2
      cases hr : cmI o i j with
      | none => rw [hr] at h2; exact h2.elim
      | some r =>
        rw [hr] at h2
        refine cmI_sound ho hr ⟨r, rfl, ?_⟩
        cases r with
        | false =>
          show (if false = true then _ else Q (.bl false) H2)
          rw [if_neg Bool.false_ne_true]
          exact h2 _ S2 H2 (Fr.refl f2.dm) en2 Sub.refl (.bl false)
        | true =>
          show (if true = true then _ else _)
          rw [if_pos rfl]
          refine hc.sv ρ2 S2 σ H2 _ f2.dm en2 (post_bnd h2 fun z ρ3 h3 w S3 H3 f3 en3 s3 g3 => ?_)
          have h3 := post_shiftE f3 s3 h3
          cases z with
          | int k =>
            have ew : w = .int k := (g3.now f3.dm en3).int
            subst ew
            obtain ⟨r, e1, q⟩ := primB f3.dm en3 h3
            exact cmI_sound ho' e1 q
          | _ => exact h3.elim
    | _ => exact h2.elim
  | _ => cases y <;> exact h2.elim
theorem sx_ch {d : Expr} {op op' : CmpOp} {o o' : Cm} (ha : SX c X a ia) (hb : SX c X b ib) (hc : SX c X d ic) (ho : cmOf op = some o) (ho' : cmOf op' = some o') (hm : lastMarks [op, op'] [b, d] = false) : SX c X (.Compare a [op, op'] [b, d] pos) (.ch o o' ia ib ic) :=
  sx_of (fun ρ S σ H Q hd en hp => we_of (pe_chain rw_ok rw_ok pe_we pe_we pe_we hm) (ch_core ha hb hc ho ho' hd en hp)) rfl
theorem sx_neg (ha : SX c X a ia) : SX c X (.UnaryOp .USub a pos) (.neg ia) := by
  refine sx_of (fun ρ S σ H Q hd en hp => ?_) rfl
  refine we_of (pe_un un_neg pe_we) ?_
  refine ha.se ρ S σ H _ hd en (post_bnd hp fun v ρ1 h1 u S1 H1 f1 en1 s1 g1 => ?_)
  have h1 := post_shiftE f1 s1 h1
  cases v with
  | new ds => exact h1.elim
  | dat d =>
    cases d with
    | int i =>
      have g1 : Dq X.K (hid S1 H1) u (.int i) := g1
      cases g1
      exact ⟨i, rfl, h1 _ S1 H1 (Fr.refl f1.dm) en1 Sub.refl (.int _)⟩
    | _ => exact h1.elim

/-! ### tests -/
def WT (X : Cx) (e : Expr) : TT := fun σ H Q => ∀ (pins : List (Addr × Obj)) (s : Shared), Inv X pins σ H s → wpAny (model X.prog X.w) X.A (isTrue e X.env (eval e X.env)) (TP X pins σ Q) X.xe s
def WU (X : Cx) (e : Expr) : TT := fun σ H Q => ∀ (whole : Sem Value) (pins : List (Addr × Obj)) (s : Shared), Inv X pins σ H s → wpAny (model X.prog X.w) X.A (isTrue e X.env whole) (TP X pins σ Q) X.xe s
theorem pt_wt {X : Cx} {e : Expr} : PT X e (WT X e) := ⟨fun pins s σ H Q I h => h pins s I⟩
theorem pw_wu {X : Cx} {e : Expr} : PW X e (WU X e) := ⟨fun whole pins s σ H Q I h => h whole pins s I⟩
theorem wt_of {t : TT} {Q : Bool → Hp → Prop} (h : PT X e t) (q : t σ H Q) : WT X e σ H Q := fun pins s I => h.run pins s σ H Q I q
theorem wu_of {t : TT} {Q : Bool → Hp → Prop} (h : PW X e t) (q : t σ H Q) : WU X e σ H Q := fun whole pins s I => h.run whole pins s σ H Q I q
/-- a test's outcome -/
def GT : Val → V → Hd → Hp → En → Prop := fun val v _ _ _ => ∃ b, val = .dat (.bool b) ∧ v = .bl b
def PostT (c : Cc) (K : PySem.W.Frag) (σ : St) (ρ : En) (S : Hd) (H : Hp) (Q : Bool → Hp → Prop) (r : R En (Val × En)) : Prop := match r with
  | .ok (.dat (.bool b), ρ') => ∀ S' H', Fr S H (Owns σ ρ) S' H' → EnOk K S' H' σ ρ' → Sub σ ρ ρ' → Q b H'
  | .ok _ => False
  | .exc x ρ' => PostX c K σ ρ S H x ρ'
  | .bad => False
def ST (c : Cc) (X : Cx) (e : Expr) (x : E) : Prop := ∀ ρ S σ H Q, Dm S H → EnOk X.K S H σ ρ → PostT c X.K σ ρ S H Q (ev c.cl x ρ) → WT X e σ H Q
def SU (c : Cc) (X : Cx) (e : Expr) (x : E) : Prop := ∀ ρ S σ H Q, Dm S H → EnOk X.K S H σ ρ → PostT c X.K σ ρ S H Q (ev c.cl x ρ) → WU X e σ H Q
theorem SU.st (h : SU c X e x) : ST c X e x := fun ρ S σ H Q hd en hp pins s I => h ρ S σ H Q hd en hp _ pins s I
theorem postT_g {Q : Bool → Hp → Prop} {r : R En (Val × En)} {K : PySem.W.Frag} (h : PostT c K σ ρ S H Q r) : PostG c K σ ρ S H (GE K σ H) (fun v H' => ∃ b, v = .bl b ∧ Q b H') r := by
  cases r with
  | bad => exact h
  | exc x ρ' => exact h
  | ok a =>
    obtain ⟨val, ρ'⟩ := a
    cases val with
    | new ds => exact h.elim
    | dat d =>
      cases d with
      | bool b =>
        intro v S' H' f en sb g
        have g : Dq K (hid S' H') v (.bool b) := g
        cases g
        exact ⟨b, rfl, h S' H' f en sb⟩
      | _ => exact h.elim
theorem postT_shift {Q : Bool → Hp → Prop} {r : R En (Val × En)} {K : PySem.W.Frag} {S1 : Hd} {H1 : Hp} {ρ1 : En} (f : Fr S H (Owns σ ρ) S1 H1) (s : Sub σ ρ ρ1) (h : PostT c K σ ρ S H Q r) : PostT c K σ ρ1 S1 H1 Q r := by
  have tr : ∀ {S' H'}, Fr S1 H1 (Owns σ ρ1) S' H' → Fr S H (Owns σ ρ) S' H' := fun g => f.trans g fun a z => .inl (s a z)
  cases r with
  | bad => exact h
  | exc x ρ' => exact fun d S' H' f1 e1 s1 g1 => h d S' H' (tr f1) e1 (s.trans s1) g1
  | ok a =>
    obtain ⟨val, ρ'⟩ := a
    cases val with
    | new ds => exact h.elim
    | dat d =>
      cases d with
      | bool b => exact fun S' H' f1 en1 s1 => h S' H' (tr f1) en1 (s.trans s1)
      | _ => exact h.elim
/-- a test that is a plain value -/
theorem st_val (h : SX c X e x) (he : ∀ whole, isTrue e X.env whole = (do let v ← whole; standAt e.pos; holding [v] (truthy v))) : ST c X e x := fun ρ S σ H Q hd en hp =>
  wt_of (pt_val pe_we he) (h.se ρ S σ H _ hd en (postT_g hp))
/-- a comparison as a test -/
theorem st_cm {op : CmpOp} {o : Cm} (ha : SX c X a ia) (hb : SX c X b ib) (ho : cmOf op = some o) (hu : X.A.units + 65 < cLine) (hm : behindInMarks op b = false) : ST c X (.Compare a [op] [b] pos) (.cm o ia ib) := fun ρ S σ H Q hd en hp =>
  wt_of (pt_cmpR rw_ok pe_we pe_we hm) (cm_core ha hb ho hu hd en (postT_g hp))
theorem st_ch {d : Expr} {op op' : CmpOp} {o o' : Cm} (ha : SX c X a ia) (hb : SX c X b ib) (hc : SX c X d ic) (ho : cmOf op = some o) (ho' : cmOf op' = some o') (hm : lastMarks [op, op'] [b, d] = false) : ST c X (.Compare a [op, op'] [b, d] pos) (.ch o o' ia ib ic) := fun ρ S σ H Q hd en hp =>
  wt_of (pt_chain rw_ok rw_ok pe_we pe_we pe_we hm) (ch_core ha hb hc ho ho' hd en (postT_g hp))
theorem st_bnd {Q Q1 : Bool → Hp → Prop} {r : R En (Val × En)} {f : Val → En → R En (Val × En)} {K : PySem.W.Frag} (h : PostT c K σ ρ S H Q (bnd r f)) (hf : ∀ v ρ', (∀ b, v ≠ .dat (.bool b)) → f v ρ' = .bad)
    (k : ∀ b ρ1, PostT c K σ ρ S H Q (f (.dat (.bool b)) ρ1) → ∀ S1 H1, Fr S H (Owns σ ρ) S1 H1 → EnOk K S1 H1 σ ρ1 → Sub σ ρ ρ1 → Q1 b H1) : PostT c K σ ρ S H Q1 r := by
  cases r with
  | bad => exact h
  | exc x ρ' => exact h
  | ok a =>
    obtain ⟨val, ρ'⟩ := a
    have h : PostT c K σ ρ S H Q (f val ρ') := h
    cases val with
    | new ds => rw [hf _ _ (fun b z => by cases z)] at h; exact h.elim
    | dat d =>
      cases d with
      | bool b => exact fun S1 H1 f1 en1 s1 => k b ρ' h S1 H1 f1 en1 s1
      | _ => rw [hf _ _ (fun b z => by cases z)] at h; exact h.elim
theorem su_not (h : ST c X a ia) : ST c X (.UnaryOp .Not a pos) (.not ia) := fun ρ S σ H Q hd en hp => by
  refine wt_of (pt_not pt_wt) ?_
  refine h ρ S σ H _ hd en (st_bnd hp (fun v ρ' hv => ?_) fun b ρ1 h1 S1 H1 f1 en1 s1 => ?_)
  · cases v with
    | new ds => rfl
    | dat d => cases d <;> first | rfl | exact absurd rfl (hv _)
  · exact h1 S1 H1 f1 en1 s1
theorem su_and1 (h : ST c X a ia) : SU c X (.BoolOp .And [a] pos) ia := fun ρ S σ H Q hd en hp => wu_of (pw_and1 pt_wt) (h ρ S σ H _ hd en hp)
theorem su_and {rest : List Expr} (h : ST c X a ia) (hr : SU c X (.BoolOp .And (b :: rest) pos) ib) : SU c X (.BoolOp .And (a :: b :: rest) pos) (.and ia ib) := fun ρ S σ H Q hd en hp => by
  refine wu_of (pw_and pt_wt pw_wu) ?_
  refine h ρ S σ H _ hd en (st_bnd hp (fun v ρ' hv => ?_) fun k ρ1 h1 S1 H1 f1 en1 s1 => ?_)
  · cases v with
    | new ds => rfl
    | dat d =>
      cases d with
      | bool b => exact absurd rfl (hv _)
      | _ => rfl
  · cases k with
    | false =>
      show (if false = true then _ else Q false H1)
      rw [if_neg Bool.false_ne_true]
      exact h1 S1 H1 f1 en1 s1
    | true =>
      show (if true = true then _ else _)
      rw [if_pos rfl]
      exact hr ρ1 S1 σ H1 Q f1.dm en1 (postT_shift f1 s1 h1)
theorem su_or1 (h : ST c X a ia) : SU c X (.BoolOp .Or [a] pos) ia := fun ρ S σ H Q hd en hp => wu_of (pw_or1 pt_wt) (h ρ S σ H _ hd en hp)
theorem su_or {rest : List Expr} (h : ST c X a ia) (hr : SU c X (.BoolOp .Or (b :: rest) pos) ib) : SU c X (.BoolOp .Or (a :: b :: rest) pos) (.or ia ib) := fun ρ S σ H Q hd en hp => by
  refine wu_of (pw_or pt_wt pw_wu) ?_
  refine h ρ S σ H _ hd en (st_bnd hp (fun v ρ' hv => ?_) fun k ρ1 h1 S1 H1 f1 en1 s1 => ?_)
  · cases v with
    | new ds => rfl
    | dat d =>
      cases d with
      | bool b => exact absurd rfl (hv _)
      | _ => rfl
  · cases k with
    | true =>
      show (if true = true then Q true H1 else _)
      rw [if_pos rfl]
      exact h1 S1 H1 f1 en1 s1
    | false =>
      show (if false = true then _ else _)
      rw [if_neg Bool.false_ne_true]
      exact hr ρ1 S1 σ H1 Q f1.dm en1 (postT_shift f1 s1 h1)

/-! ### and, or, not, if as values -/
theorem se_bool {K : PySem.W.Frag} {Q1 Q2 : VK} {r : R En (Val × En)} {f : Val → En → R En (Val × En)} {G' : Val → V → Hd → Hp → En → Prop} (h : PostG c K σ ρ S H G' Q2 (bnd r f)) (hf : ∀ v ρ', (∀ b, v ≠ .dat (.bool b)) → f v ρ' = .bad)
    (k : ∀ b ρ1, PostG c K σ ρ S H G' Q2 (f (.dat (.bool b)) ρ1) → ∀ S1 H1, Fr S H (Owns σ ρ) S1 H1 → EnOk K S1 H1 σ ρ1 → Sub σ ρ ρ1 → Q1 (.bl b) H1) : PostG c K σ ρ S H (GE K σ H) Q1 r := by
  refine post_bnd h fun v ρ1 h1 u S1 H1 f1 en1 s1 g1 => ?_
  cases v with
  | new ds => rw [hf _ _ (fun b z => by cases z)] at h1; exact h1.elim
  | dat d =>
    cases d with
    | bool b =>
      have g1 : Dq K (hid S1 H1) u (.bool b) := g1
      cases g1
      exact k b ρ1 h1 S1 H1 f1 en1 s1
    | _ => rw [hf _ _ (fun b z => by cases z)] at h1; exact h1.elim
theorem sx_not (ha : SX c X a ia) : SX c X (.UnaryOp .Not a pos) (.not ia) := by
  refine sx_of (fun ρ S σ H Q hd en hp => ?_) rfl
  refine we_of (pe_not pe_we) (ha.se ρ S σ H _ hd en (se_bool hp (fun v ρ' hv => ?_) fun b ρ1 h1 S1 H1 f1 en1 s1 => ?_))
  · cases v with
    | new ds => rfl
    | dat d => cases d <;> first | rfl | exact absurd rfl (hv _)
  · exact ⟨b, rfl, h1 _ S1 H1 f1 en1 s1 (.bl _)⟩
theorem sx_one {op : BoolOp} (h : SE c X a ia) : SE c X (.BoolOp op [a] pos) ia := fun ρ S σ H Q hd en hp => we_of (pe_one pe_we) (h ρ S σ H Q hd en hp)
theorem sx_and {rest : List Expr} (ha : SX c X a ia) (hr : SE c X (.BoolOp .And (b :: rest) pos) ib) : SX c X (.BoolOp .And (a :: b :: rest) pos) (.and ia ib) := by
  refine sx_of (fun ρ S σ H Q hd en hp => ?_) rfl
  refine we_of (pe_and pe_we pe_we) (ha.se ρ S σ H _ hd en (se_bool hp (fun v ρ' hv => ?_) fun k ρ1 h1 S1 H1 f1 en1 s1 => ?_))
  · cases v with
    | new ds => rfl
    | dat d =>
      cases d with
      | bool b => exact absurd rfl (hv _)
      | _ => rfl
  · refine ⟨k, rfl, ?_⟩
    cases k with
    | false => rw [if_neg Bool.false_ne_true]; exact h1 _ S1 H1 f1 en1 s1 (.bl _)
    | true => rw [if_pos rfl]; exact hr ρ1 S1 σ H1 Q f1.dm en1 (post_shiftE f1 s1 h1)
theorem sx_or {rest : List Expr} (ha : SX c X a ia) (hr : SE c X (.BoolOp .Or (b :: rest) pos) ib) : SX c X (.BoolOp .Or (a :: b :: rest) pos) (.or ia ib) := by
  refine sx_of (fun ρ S σ H Q hd en hp => ?_) rfl
  refine we_of (pe_or pe_we pe_we) (ha.se ρ S σ H _ hd en (se_bool hp (fun v ρ' hv => ?_) fun k ρ1 h1 S1 H1 f1 en1 s1 => ?_))
  · cases v with
    | new ds => rfl
    | dat d =>
      cases d with
      | bool b => exact absurd rfl (hv _)
      | _ => rfl
  · refine ⟨k, rfl, ?_⟩
    cases k with
    | true => rw [if_pos rfl]; exact h1 _ S1 H1 f1 en1 s1 (.bl _)
    | false => rw [if_neg Bool.false_ne_true]; exact hr ρ1 S1 σ H1 Q f1.dm en1 (post_shiftE f1 s1 h1)
theorem sx_ite (ht : ST c X t it) (ha : SX c X a ia) (hb : SX c X b ib) : SX c X (.IfExp t a b pos) (.ite it ia ib) := by
  refine sx_of (fun ρ S σ H Q hd en hp => ?_) rfl
  refine we_of (pe_ifExp pt_wt pe_we pe_we) (ht ρ S σ H _ hd en ?_)
  have hp : PostG c X.K σ ρ S H (GE X.K σ H) Q (bnd (ev c.cl it ρ) fun v ρ1 => match v with
    | .dat (.bool true) => ev c.cl ia ρ1
    | .dat (.bool false) => ev c.cl ib ρ1
    | _ => .bad) := hp
  cases hr : ev c.cl it ρ with
  | bad => rw [hr] at hp; exact hp
  | exc x ρ' => rw [hr] at hp; exact hp
  | ok r =>
    obtain ⟨val, ρ1⟩ := r
    rw [hr] at hp
    cases val with
    | new ds => exact hp.elim
    | dat d =>
      cases d with
      | bool k =>
        intro S1 H1 f1 en1 s1
        cases k with
        | true => rw [if_pos rfl]; exact ha.se ρ1 S1 σ H1 Q f1.dm en1 (post_shiftE f1 s1 hp)
        | false => rw [if_neg Bool.false_ne_true]; exact hb.se ρ1 S1 σ H1 Q f1.dm en1 (post_shiftE f1 s1 hp)
      | _ => exact hp.elim
end
end Iv
end

section
set_option Elab.async false
set_option linter.all false
set_option maxRecDepth 100000
set_option maxHeartbeats 2000000
namespace Iv
open PySem L2

section
variable {c : Cc} {X : Cx} {σ : St} {ρ : En} {S : Hd} {H : Hp} {Q : VK} {e a b t : Expr} {es : List Expr} {x y ia ib ic it : E} {pos : Pos}

/-! ### an expression's value as data -/
def GD (K : PySem.W.Frag) : PyData → V → Hd → Hp → En → Prop := fun d v S' H' _ => Dq K (hid S' H') v d
def SD (c : Cc) (X : Cx) (e : Expr) (x : E) : Prop := ∀ ρ S σ H Q, Dm S H → EnOk X.K S H σ ρ → PostG c X.K σ ρ S H (GD X.K) Q ((ev c.cl x ρ).map fun p => (p.1.d, p.2)) → WE X e σ H Q
theorem SE.sd (h : SE c X e x) : SD c X e x := by
  intro ρ S σ H Q hd en hp
  refine h ρ S σ H Q hd en ?_
  cases hr : ev c.cl x ρ with
  | bad => rw [hr] at hp; exact hp
  | exc z ρ' => rw [hr] at hp; exact hp
  | ok r =>
    obtain ⟨val, ρ'⟩ := r
    rw [hr] at hp
    intro v S' H' f en' sb g
    cases val with
    | dat d => exact hp v S' H' f en' sb g
    | new ds =>
      obtain ⟨p, vs, e1, e2, e3, e4, e5, e6⟩ := g
      have f2 : Fr S' H' (fun q => q = p) (bare S' p) H' := Fr.show f.dm rfl
      have f3 : Fr S H (Owns σ ρ) (bare S' p) H' := f.trans f2 fun a z => .inr (by subst z; exact e6)
      refine hp v (bare S' p) H' f3 (en'.step f2 fun q z w => e5 (by subst w; exact z)) sb ?_
      show Dq _ _ v (.list ds)
      rw [e1]
      exact .lst (hid_some bare_same e3) (e4.mono f2.hid)

/-! ### arguments -/
def WA (X : Cx) (es : List Expr) : TA := fun σ H Q => ∀ (p : Pos) (pins : List (Addr × Obj)) (s : Shared), Inv X pins σ H s → wpAny (model X.prog X.w) X.A (spliced (backTo p (starEach es X.env))) (AP X pins σ Q) X.xe s
theorem pa_wa : PA X es (WA X es) := ⟨fun p pins s σ H Q I h => h p pins s I⟩
theorem wa_of {t : TA} {Q : List V → Hp → Prop} (h : PA X es t) (q : t σ H Q) : WA X es σ H Q := fun p pins s I => h.run p pins s σ H Q I q
inductive ArgsOk (K : PySem.W.Frag) (S : Hd) (H : Hp) (σ : St) : List V → List Arg → Prop
  | nil : ArgsOk K S H σ [] []
  | d {v : V} {d : PyData} {vs : List V} {as : List Arg} : Dq K (hid S H) v d → ArgsOk K S H σ vs as → ArgsOk K S H σ (v :: vs) (.d d :: as)
  | r {v : V} {i : Nat} {vs : List V} {as : List Arg} : σ[i]? = some (some v) → ArgsOk K S H σ vs as → ArgsOk K S H σ (v :: vs) (.r i :: as)
theorem ArgsOk.step {K : PySem.W.Frag} {S' : Hd} {H' : Hp} {O : Addr → Prop} (f : Fr S H O S' H') {vs : List V} {as : List Arg} (h : ArgsOk K S H σ vs as) : ArgsOk K S' H' σ vs as := by
  induction h with
  | nil => exact .nil
  | d h1 _ ih => exact .d (h1.mono f.hid) ih
  | r h1 _ ih => exact .r h1 ih
def GA (K : PySem.W.Frag) (σ : St) : List Arg → List V → Hd → Hp → En → Prop := fun as vs S' H' _ => ArgsOk K S' H' σ vs as
structure SA (c : Cc) (X : Cx) (es : List Expr) (x : E) : Prop where
  go : ∀ ρ S σ H Q, Dm S H → EnOk X.K S H σ ρ → PostG c X.K σ ρ S H (GA X.K σ) Q (evs c.cl x ρ) → WA X es σ H Q
theorem sa_nil : SA c X [] .nil := ⟨fun ρ S σ H Q hd en hp => wa_of pa_nil (hp [] S H (Fr.refl hd) en Sub.refl .nil)⟩
def isRef : E → Bool
  | .ref _ => true
  | _ => false
theorem evs_cons {cl : Orc} (h : isRef x = false) : evs cl (.cons x y) ρ = bnd (ev cl x ρ) fun v ρ1 => bnd (evs cl y ρ1) fun as ρ2 => .ok (.d v.d :: as, ρ2) := by
  cases x <;> first | rfl | cases h
theorem post_map {α α' β : Type} {K : PySem.W.Frag} {G : α → β → Hd → Hp → En → Prop} {Q : β → Hp → Prop} {r : R En (α' × En)} {f : α' → α} (h : PostG c K σ ρ S H (fun a => G (f a)) Q r) : PostG c K σ ρ S H G Q (r.map fun p => (f p.1, p.2)) := by
  cases r with
  | ok a => exact h
  | exc x e => exact h
  | bad => exact h
theorem sa_cons (ha : SX c X a x) (hr : SA c X es y) (hx : isRef x = false) (hs : starEach (a :: es) X.env = (false, eval a X.env) :: starEach es X.env) : SA c X (a :: es) (.cons x y) := by
  refine ⟨fun ρ S σ H Q hd en hp => ?_⟩
  rw [evs_cons hx] at hp
  refine wa_of (pa_cons pe_we pa_wa hs) ?_
  refine ha.se.sd ρ S σ H _ hd en (post_map (f := Val.d) (post_bnd hp fun v ρ1 h1 u S1 H1 f1 en1 s1 g1 => ?_))
  refine hr.go ρ1 S1 σ H1 _ f1.dm en1 (post_bnd (post_shift f1 s1 h1 fun _ _ _ _ _ _ g => g) fun as ρ2 h2 us S2 H2 f2 en2 s2 g2 => ?_)
  exact h2 (u :: us) S2 H2 f2 en2 s2 (.d (g1.mono f2.hid) g2)
theorem sa_ref {i : Nat} (ha : PE X a (tVar i)) (hr : SA c X es y) (hs : starEach (a :: es) X.env = (false, eval a X.env) :: starEach es X.env) : SA c X (a :: es) (.cons (.ref i) y) := by
  refine ⟨fun ρ S σ H Q hd en hp => ?_⟩
  have hp : PostG c X.K σ ρ S H (GA X.K σ) Q (match ρ[i]? with
    | some (.own _) => bnd (evs c.cl y ρ) fun as ρ1 => .ok (.r i :: as, ρ1)
    | _ => .bad) := hp
  cases hi : ρ[i]? with
  | none => rw [hi] at hp; exact hp.elim
  | some s =>
    rw [hi] at hp
    cases s with
    | own ds =>
      obtain ⟨p, vs, e1, _⟩ := en.slot i _ hi
      refine wa_of (pa_cons ha pa_wa hs) ⟨_, e1, ?_⟩
      refine hr.go ρ S σ H _ hd en (post_bnd hp fun as ρ2 h2 us S2 H2 f2 en2 s2 g2 => ?_)
      exact h2 (.ref p :: us) S2 H2 f2 en2 s2 (.r e1 g2)
    | _ => exact hp.elim
theorem args_data {K : PySem.W.Frag} : ∀ {as : List Arg} {vs : List V} {ds : List PyData}, ArgsOk K S H σ vs as → argsD as = some ds → DqA K (hid S H) vs ds
  | [], _, _, h, e => by cases h; cases e; exact .nil
  | .d x :: as, _, ds, h, e => by
    cases h with
    | d h1 h2 =>
      have e : (argsD as).map (x :: ·) = some ds := e
      cases hr : argsD as with
      | none => rw [hr] at e; cases e
      | some r =>
        rw [hr] at e
        cases e
        exact .cons h1 (args_data h2 hr)
  | .r _ :: _, _, _, _, e => by cases e

/-! ### displays -/
theorem sx_tup {k : Nat} (h : SA c X es x) : SX c X (.Tuple es k pos) (.tup x) := by
  refine sx_of (fun ρ S σ H Q hd en hp => ?_) rfl
  refine we_of (pe_tupS pa_wa) (h.go ρ S σ H _ hd en (post_bnd hp fun as ρ1 h1 us S1 H1 f1 en1 s1 g1 => ?_))
  have h1 := post_shiftE f1 s1 h1
  cases hr : argsD as with
  | none => rw [hr] at h1; exact h1.elim
  | some ds =>
    rw [hr] at h1
    have D := args_data g1 hr
    have h1 : PostG c X.K σ ρ1 S1 H1 (GE X.K σ H1) Q (if ds.length ≤ big then .ok (.dat (.tuple ds), ρ1) else .bad) := h1
    by_cases hz : ds.length ≤ big
    · rw [if_pos hz] at h1
      refine ⟨by rw [D.length]; exact big_le hz, fun p ob hp ho => ?_⟩
      have f := Fr.alloc (O := fun _ => False) (o := .frz ob (.tup us)) f1.dm hp
      have hs : S1 p = false := by
        cases hs : S1 p with
        | false => rfl
        | true => exact absurd hp (f1.dm p hs)
      exact h1 _ _ _ (f.imp fun _ z => z.elim) (en1.step0 f) Sub.refl (.tup (sqS_new hs ho) (D.mono f.hid))
    · rw [if_neg hz] at h1; exact h1.elim
theorem sx_lst (h : SA c X es x) : SX c X (.List es pos) (.lst x) := by
  refine sx_of (fun ρ S σ H Q hd en hp => ?_) rfl
  refine we_of (pe_lst pa_wa) (h.go ρ S σ H _ hd en (post_bnd hp fun as ρ1 h1 us S1 H1 f1 en1 s1 g1 => ?_))
  have h1 := post_shiftE f1 s1 h1
  cases hr : argsD as with
  | none => rw [hr] at h1; exact h1.elim
  | some ds =>
    rw [hr] at h1
    have D := args_data g1 hr
    have h1 : PostG c X.K σ ρ1 S1 H1 (GE X.K σ H1) Q (if ds.length ≤ big then .ok (.new ds, ρ1) else .bad) := h1
    by_cases hz : ds.length ≤ big
    · rw [if_pos hz] at h1
      refine ⟨by rw [D.length]; exact big_le hz, fun p hp => ?_⟩
      have f := Fr.allocH (O := fun _ => False) (o := .lst us) f1.dm hp
      refine h1 _ _ _ (f.imp fun _ z => z.elim) (en1.step0 f) Sub.refl ?_
      have q : PV X.K H1 (hide S1 p) (upd H1 p (.lst us)) (.ref p) (.new ds) := ⟨p, us, rfl, hide_same, upd_same, D.mono f.hid, hp⟩
      exact pv_vok en1 q
    · rw [if_neg hz] at h1; exact h1.elim

/-! ### items and slices -/
theorem dq_at {K : PySem.W.Frag} {ds : List PyData} {vs : List V} {i : Int} {d : PyData} (h : DqA K H vs ds) (e : atI ds i = some d) : ∃ v, atI vs i = some v ∧ Dq K H v d := by
  unfold atI at e ⊢
  rw [h.length]
  cases hi : ixN ds.length i with
  | none => rw [hi] at e; cases e
  | some j =>
    rw [hi] at e
    obtain ⟨v, e1, e2⟩ := h.get (i := j) e
    exact ⟨v, e1, e2⟩
theorem sx_ix (ha : SX c X a ia) (hb : SX c X b ib) (hp' : PlainIx b) : SX c X (.Subscript a b pos) (.ix ia ib) := by
  refine sx_of (fun ρ S σ H Q hd en hp => ?_) rfl
  refine we_of (pe_ix (ix_list.or ix_tup) pe_we pe_we hp') ?_
  refine ha.sv ρ S σ H _ hd en (post_bnd hp fun x ρ1 h1 u S1 H1 f1 en1 s1 g1 => ?_)
  refine hb.sv ρ1 S1 σ H1 _ f1.dm en1 (post_bnd (post_shiftE f1 s1 h1) fun y ρ2 h2 v S2 H2 f2 en2 s2 g2 => ?_)
  have h2 := post_shiftE f2 s2 h2
  cases hr : reD ia ρ2 x with
  | none => rw [hr] at h2; exact h2.elim
  | some x' =>
    rw [hr] at h2
    have gx := g1.later f2 en2 hr
    have gy := g2.now f2.dm en2
    obtain ⟨val, e1, q⟩ := prim f2.dm en2 h2
    cases hx : ixD x' y with
    | none => rw [hx] at e1; cases e1
    | some d =>
      rw [hx] at e1
      cases e1
      have fin : ∀ w, Dq X.K (hid S2 H2) w d → Q w H2 := fun w D => q w S2 H2 (Fr.refl f2.dm) D
      unfold ixD at hx
      split at hx
      · have gx := gx
        rcases gx with gx | ⟨_, _, _, _, z, _⟩
        · cases gx with
          | scr z1 z2 =>
            rw [gy.int]
            obtain ⟨w, e2, D⟩ := dq_at z2 hx
            exact .inl ⟨_, _, _, w, rfl, rfl, sqL_ext0 hid_ext z1, e2, fin w D⟩
        · cases z
      · obtain ⟨p, vs, rfl, z1, z2⟩ := gx.lst
        rw [gy.int]
        obtain ⟨w, e2, D⟩ := dq_at z2 hx
        exact .inl ⟨p, vs, _, w, rfl, rfl, SqL.of z1, e2, fin w D⟩
      · obtain ⟨p, vs, rfl, z1, z2, _⟩ := gx.tup
        rw [gy.int]
        obtain ⟨w, e2, D⟩ := dq_at z2 hx
        exact .inr ⟨p, vs, _, w, rfl, rfl, z1, e2, fin w D⟩
      · cases hx
end
end Iv
end

section
set_option Elab.async false
set_option linter.all false
set_option maxRecDepth 100000
set_option maxHeartbeats 2000000
namespace Iv
open PySem L2

section
variable {c : Cc} {X : Cx} {σ : St} {ρ : En} {S : Hd} {H : Hp} {Q : VK} {e a b t : Expr} {es : List Expr} {x y ia ib ic it : E} {pos p : Pos}

/-! ### slices -/
theorem cut_dq {K : PySem.W.Frag} {ds : List PyData} {vs : List V} (h : DqA K H vs ds) (lo hi : Option Int) : DqA K H (cutV vs lo hi) (cutD ds lo hi) := by
  unfold cutV cutD
  rw [h.length]
  exact (h.drop _).take _
theorem sl_sound {v : V} {d : PyData} {lo hi : Option Int} {val : Val} (e : slD d lo hi = some val) (hd : Dm S H) (hx : Dw X.K S H v d) (q : ∀ w S' H', Fr S H (fun _ => False) S' H' → PV X.K H S' H' w val → Q w H') : rSlL X.K v lo hi H Q ∨ rSlZ X.K v lo hi H Q := by
  unfold slD at e
  split at e
  · cases e
    obtain ⟨p, vs, rfl, h1, h2⟩ := hx.lst
    refine .inl ⟨p, vs, rfl, SqL.of h1, fun l hl => ?_⟩
    have f := Fr.allocH (O := fun _ => False) (o := .lst (cutV vs lo hi)) hd hl
    exact q _ _ _ f ⟨l, _, rfl, hide_same, upd_same, (cut_dq h2 lo hi).mono f.hid, hl⟩
  · cases e
    obtain ⟨p, vs, rfl, h1, h2, h3⟩ := hx.tup
    refine .inr ⟨p, vs, rfl, h1, fun ⟨z1, z2⟩ => ?_, fun _ l ob hl ho => ?_⟩
    · refine q _ S H (Fr.refl hd) ?_
      have : cutD ‹List PyData› lo hi = ‹List PyData› := by
        unfold cutD
        rw [h2.length] at z1 z2
        rw [z1, z2, List.drop_zero, Nat.sub_zero, List.take_length]
      show Dq _ _ _ _
      rw [this]; exact h3
    · have f := Fr.alloc (O := fun _ => False) (o := .frz ob (.tup (cutV vs lo hi))) hd hl
      refine q _ _ _ f (.tup (sqS_new ?_ ho) ((cut_dq h2 lo hi).mono f.hid))
      cases hs : S l with
      | false => rfl
      | true => exact absurd hl (hd l hs)
  · cases e
def isNil : E → Bool
  | .nil => true
  | _ => false
/-- a bound of a slice -/
inductive SB (c : Cc) (X : Cx) : Option Expr → E → Prop
  | no : SB c X none .nil
  | some {e : Expr} {x : E} (h : SX c X e x) (hn : isNil x = false) : SB c X (some e) x
theorem ev_sl_nn {cl : Orc} : ev cl (.sl x .nil .nil) ρ = bnd (vwOf x ρ (ev cl x ρ)) fun d ρ1 => match reD x ρ1 d with
      | some d => ofO ρ1 (slD d none none)
      | none => .bad := rfl
theorem ev_sl_ns {cl : Orc} (h : isNil y = false) : ev cl (.sl x .nil y) ρ = bnd (vwOf x ρ (ev cl x ρ)) fun d ρ1 => bnd (ev cl y ρ1) fun v ρ2 => match v, reD x ρ2 d with
      | .dat (.int j), some d => ofO ρ2 (slD d none (some j))
      | _, _ => .bad := by
  cases y <;> first | rfl | cases h
theorem ev_sl_sn {cl : Orc} (h : isNil y = false) : ev cl (.sl x y .nil) ρ = bnd (vwOf x ρ (ev cl x ρ)) fun d ρ1 => bnd (ev cl y ρ1) fun v ρ2 => match v, reD x ρ2 d with
      | .dat (.int j), some d => ofO ρ2 (slD d (some j) none)
      | _, _ => .bad := by
  cases y <;> first | rfl | cases h
theorem ev_sl_ss {cl : Orc} (h : isNil y = false) (h' : isNil it = false) : ev cl (.sl x y it) ρ = bnd (vwOf x ρ (ev cl x ρ)) fun d ρ1 => bnd (ev cl y ρ1) fun u ρ2 => match u with
      | .dat (.int i) => bnd (ev cl it ρ2) fun v ρ3 => match v, reD x ρ3 d with
        | .dat (.int j), some d => ofO ρ3 (slD d (some i) (some j))
        | _, _ => .bad
      | _ => .bad := by
  cases y <;> first | (cases h; done) | (cases it <;> first | rfl | (cases h'; done))
theorem sx_sl {lo hi : Option Expr} {xl xh : E} {p2 : Pos} (ha : SX c X a ia) (hl : SB c X lo xl) (hh : SB c X hi xh) : SX c X (.Subscript a (.Slice lo hi none p2) pos) (.sl ia xl xh) := by
  refine sx_of (fun ρ S σ H Q hd en hp => ?_) rfl
  cases hl with
  | no =>
    cases hh with
    | no =>
      rw [ev_sl_nn] at hp
      refine we_of (pe_slice (sl_list.or sl_tupZ) pe_we po_none po_none) ?_
      refine ha.sv ρ S σ H _ hd en (post_bnd hp fun d ρ1 h1 u S1 H1 f1 en1 s1 g1 => ?_)
      have h1 := post_shiftE f1 s1 h1
      cases hr : reD ia ρ1 d with
      | none => rw [hr] at h1; exact h1.elim
      | some d' =>
        rw [hr] at h1
        obtain ⟨val, e1, q⟩ := prim f1.dm en1 h1
        exact sl_sound e1 f1.dm (g1.later (Fr.refl (O := fun _ => False) f1.dm) en1 hr) q
    | some hs hn =>
      rw [ev_sl_ns hn] at hp
      refine we_of (pe_slice (sl_list.or sl_tupZ) pe_we po_none (po_some pe_we)) ?_
      refine ha.sv ρ S σ H _ hd en (post_bnd hp fun d ρ1 h1 u S1 H1 f1 en1 s1 g1 => ?_)
      refine hs.se ρ1 S1 σ H1 _ f1.dm en1 (post_bnd (post_shiftE f1 s1 h1) fun w ρ2 h2 v S2 H2 f2 en2 s2 g2 => ?_)
      have h2 := post_shiftE f2 s2 h2
      cases w with
      | new ds => exact h2.elim
      | dat j =>
        cases j with
        | int j =>
          have g2 : Dq X.K (hid S2 H2) v (.int j) := g2
          cases g2
          cases hr : reD ia ρ2 d with
          | none => rw [hr] at h2; exact h2.elim
          | some d' =>
            rw [hr] at h2
            obtain ⟨val, e1, q⟩ := prim f2.dm en2 h2
            exact ⟨j, rfl, sl_sound e1 f2.dm (g1.later f2 en2 hr) q⟩
        | _ => exact h2.elim
  | some hs hn =>
    cases hh with
    | no =>
      rw [ev_sl_sn hn] at hp
      refine we_of (pe_slice (sl_list.or sl_tupZ) pe_we (po_some pe_we) po_none) ?_
      refine ha.sv ρ S σ H _ hd en (post_bnd hp fun d ρ1 h1 u S1 H1 f1 en1 s1 g1 => ?_)
      refine hs.se ρ1 S1 σ H1 _ f1.dm en1 (post_bnd (post_shiftE f1 s1 h1) fun w ρ2 h2 v S2 H2 f2 en2 s2 g2 => ?_)
      have h2 := post_shiftE f2 s2 h2
      cases w with
      | new ds => exact h2.elim
      | dat j =>
        cases j with
        | int j =>
          have g2 : Dq X.K (hid S2 H2) v (.int j) := g2
          cases g2
          cases hr : reD ia ρ2 d with
          | none => rw [hr] at h2; exact h2.elim
          | some d' =>
            rw [hr] at h2
            obtain ⟨val, e1, q⟩ := prim f2.dm en2 h2
            exact ⟨j, rfl, sl_sound e1 f2.dm (g1.later f2 en2 hr) q⟩
        | _ => exact h2.elim
    | some hs' hn' =>
      rw [ev_sl_ss hn hn'] at hp
      refine we_of (pe_slice (sl_list.or sl_tupZ) pe_we (po_some pe_we) (po_some pe_we)) ?_
      refine ha.sv ρ S σ H _ hd en (post_bnd hp fun d ρ1 h1 u S1 H1 f1 en1 s1 g1 => ?_)
      refine hs.se ρ1 S1 σ H1 _ f1.dm en1 (post_bnd (post_shiftE f1 s1 h1) fun w ρ2 h2 v S2 H2 f2 en2 s2 g2 => ?_)
      have h2 := post_shiftE f2 s2 h2
      cases w with
      | new ds => exact h2.elim
      | dat i =>
        cases i with
        | int i =>
          have g2 : Dq X.K (hid S2 H2) v (.int i) := g2
          cases g2
          refine ⟨i, rfl, ?_⟩
          refine hs'.se ρ2 S2 σ H2 _ f2.dm en2 (post_bnd h2 fun w' ρ3 h3 v' S3 H3 f3 en3 s3 g3 => ?_)
          have h3 := post_shiftE f3 s3 h3
          cases w' with
          | new ds => exact h3.elim
          | dat j =>
            cases j with
            | int j =>
              have g3 : Dq X.K (hid S3 H3) v' (.int j) := g3
              cases g3
              cases hr : reD ia ρ3 d with
              | none => rw [hr] at h3; exact h3.elim
              | some d' =>
                rw [hr] at h3
                obtain ⟨val, e1, q⟩ := prim f3.dm en3 h3
                exact ⟨j, rfl, sl_sound e1 f3.dm (g1.later (f2.trans f3 fun a z => .inl (s2 a z)) en3 hr) q⟩
            | _ => exact h3.elim
        | _ => exact h2.elim

/-! ### built-in functions of one argument -/
def b1V : B1 → Value
  | .len => .builtin "len"
  | .abs => .builtin "abs"
  | .int => .type "int"
  | .all => .builtin "all"
  | .any => .builtin "any"
  | .tuple => .type "tuple"
  | .list => .type "list"
  | .sorted => .builtin "sorted"
  | .str => .type "str"
  | .repr => .builtin "repr"
  | .sum => .builtin "sum"
theorem bools_of {K : PySem.W.Frag} : ∀ {ds : List PyData} {vs : List V} {bs : List Bool}, DqA K H vs ds → boolsOf ds = some bs → vs = bs.map V.bl
  | [], _, _, h, e => by cases h; cases e; rfl
  | d :: ds, _, bs, h, e => by
    cases h with
    | cons h1 h2 =>
      cases d with
      | bool k =>
        have e : (boolsOf ds).map (k :: ·) = some bs := e
        cases hr : boolsOf ds with
        | none => rw [hr] at e; cases e
        | some r =>
          rw [hr] at e
          cases e
          cases h1
          rw [bools_of h2 hr]; rfl
      | _ => cases e
/-- repr of data -/
theorem repr_sound {v : V} {d : PyData} (hg : X.A.guards = some []) (hu : X.A.units + 64 < cLine) (h1 : d.showable = true) (h2 : d.canLay0 = true) (h3 : d.hasDict = false) (h4 : d.depth ≤ 50) (h5 : d.shown.length ≤ big) (hx : Dq X.K H v d) (q : Q (.str d.shown) H) : CW X (.builtin "repr") [v] H Q := by
  intro pins s σ us I rv
  cases rv with
  | cons r t =>
    cases t
    have dp := Dq.dp d v h2 hx
    cases d with
    | none => cases dp; cases r; exact PySem.P.repr_of_none ⟨.str _, H, I.tok _, ⟨_, rfl⟩, q⟩
    | bool b => cases dp; cases r; exact PySem.P.repr_of_bool ⟨.str _, H, I.tok _, ⟨_, rfl⟩, q⟩
    | int i => cases dp; obtain ⟨t, rfl⟩ := r; exact PySem.P.repr_of_int (of_decide_eq_true h1) ⟨.str _, H, I.tok _, ⟨_, rfl⟩, q⟩
    | str x => cases dp; obtain ⟨t, rfl⟩ := r; exact PySem.P.repr_of_str ⟨.str _, H, I.tok _, ⟨_, rfl⟩, q⟩ (big_le h5)
    | list ds =>
      obtain ⟨as, rd⟩ := Dp.reads I _ _ _ dp r
      cases dp with
      | lst _ _ =>
        cases r
        exact repr_of_reads' rd h1 (fun z => by rw [h3] at z; cases z) hg (by omega) (fun _ _ e => e) (fun h' u tk k => ⟨.str _, H, I.kept (t' := tk) k, ⟨u, rfl⟩, q⟩) (big_le h5)
    | tuple ds =>
      obtain ⟨as, rd⟩ := Dp.reads I _ _ _ dp r
      cases dp with
      | tup _ _ =>
        cases r
        exact repr_of_reads' rd h1 (fun z => by rw [h3] at z; cases z) hg (by omega) (fun _ _ e => e) (fun h' u tk k => ⟨.str _, H, I.kept (t' := tk) k, ⟨u, rfl⟩, q⟩) (big_le h5)
    | dict kvs => cases h3
theorem ints_dq {K : PySem.W.Frag} : ∀ {ds : List PyData} {vs : List V} {is : List Int}, DqA K H vs ds → intsOf ds = some is → vs = is.map V.int
  | [], _, _, h, e => by cases h; cases e; rfl
  | d :: ds, _, is, h, e => by
    cases h with
    | cons h1 h2 =>
      cases d with
      | int i =>
        have e : (intsOf ds).map (i :: ·) = some is := e
        cases hr : intsOf ds with
        | none => rw [hr] at e; cases e
        | some r =>
          rw [hr] at e
          cases e
          cases h1
          rw [ints_dq h2 hr]; rfl
      | _ => cases e
theorem dq_ints {K : PySem.W.Frag} : ∀ is : List Int, DqA K H (is.map V.int) (is.map PyData.int)
  | [] => .nil
  | i :: r => .cons (.int i) (dq_ints r)
theorem insI_perm (i : Int) : ∀ l : List Int, (insI i l).Perm (i :: l)
  | [] => .refl _
  | j :: r => by
    unfold insI
    split
    · exact .refl _
    · exact ((insI_perm i r).cons j).trans (.swap i j r)
theorem sortI_perm : ∀ l : List Int, (sortI l).Perm l
  | [] => .refl _
  | i :: r => (insI_perm i _).trans ((sortI_perm r).cons i)
theorem insI_sorted (i : Int) : ∀ l : List Int, l.Pairwise (· ≤ ·) → (insI i l).Pairwise (· ≤ ·)
  | [], _ => List.pairwise_singleton _ _
  | j :: r, h => by
    obtain ⟨h1, h2⟩ := List.pairwise_cons.mp h
    unfold insI
    split
    · rename_i hij
      refine List.pairwise_cons.mpr ⟨fun a ha => ?_, h⟩
      rcases List.mem_cons.mp ha with rfl | ha
      · exact hij
      · exact Int.le_trans hij (h1 a ha)
    · rename_i hij
      refine List.pairwise_cons.mpr ⟨fun a ha => ?_, insI_sorted i r h2⟩
      rcases List.mem_cons.mp ((insI_perm i r).mem_iff.mp ha) with rfl | ha
      · omega
      · exact h1 a ha
theorem sortI_sorted : ∀ l : List Int, (sortI l).Pairwise (· ≤ ·)
  | [] => .nil
  | i :: r => insI_sorted i _ (sortI_sorted r)
theorem sorted_one {a b : List Int} (p : a.Perm b) (ha : a.Pairwise (· ≤ ·)) (hb : b.Pairwise (· ≤ ·)) : a = b := List.Perm.eq_of_pairwise (fun x y _ _ h1 h2 => Int.le_antisymm h1 h2) ha hb p
theorem b1_sound {k : B1} {v : V} {d : PyData} {val : Val} (e : b1D k d = some val) (hc : X.calm = true) (hg : X.A.guards = some []) (hu : X.A.units + 64 < cLine) (hd : Dm S H) (hx : Dw X.K S H v d) (q : ∀ w S' H', Fr S H (fun _ => False) S' H' → PV X.K H S' H' w val → Q w H') : CW X (b1V k) [v] H Q := by
  have r0 : Fr S H (fun _ => False) S H := Fr.refl hd
  unfold b1D at e
  split at e
  · rename_i xs
    cases hi : intsOf xs with
    | none => rw [hi] at e; cases e
    | some is =>
      rw [hi] at e
      cases e
      obtain ⟨p, vs, rfl, h1, h2⟩ := hx.lst
      have ev := ints_dq h2 hi
      subst ev
      refine cw_of cr_sortedI ⟨p, is, rfl, SqL.of h1, fun ns' p' hp hs hn => ?_⟩
      have es : ns' = sortI is := sorted_one (hp.trans (sortI_perm is).symm) hs (sortI_sorted is)
      subst es
      have f := Fr.allocH (O := fun _ => False) (o := .lst ((sortI is).map V.int)) hd hn
      exact q _ _ _ f ⟨p', _, rfl, hide_same, upd_same, dq_ints _, hn⟩
  · rename_i xs
    cases hi : intsOf xs with
    | none => rw [hi] at e; cases e
    | some is =>
      rw [hi] at e
      cases e
      obtain ⟨p, vs, rfl, h1, h2, _⟩ := hx.tup
      have ev := ints_dq h2 hi
      subst ev
      refine cw_of IvSrt.cr_sortedTI ⟨p, is, rfl, h1, fun ns' p' hp hs hn => ?_⟩
      have es : ns' = sortI is := sorted_one (hp.trans (sortI_perm is).symm) hs (sortI_sorted is)
      subst es
      have f := Fr.allocH (O := fun _ => False) (o := .lst ((sortI is).map V.int)) hd hn
      exact q _ _ _ f ⟨p', _, rfl, hide_same, upd_same, dq_ints _, hn⟩
  · cases e
    obtain ⟨p, vs, rfl, h1, h2⟩ := hx.lst
    refine cw_of call_len_seq ⟨p, vs, rfl, .inl (SqL.of h1), ?_⟩
    rw [h2.length]; exact q _ S H r0 (.int _)
  · cases e
    obtain ⟨p, vs, rfl, h1, h2, _⟩ := hx.tup
    refine cw_of call_len_seq ⟨p, vs, rfl, .inr h1, ?_⟩
    rw [h2.length]; exact q _ S H r0 (.int _)
  · cases e
    rcases hx with hx | ⟨_, _, _, _, z, _⟩
    · cases hx with
      | scr h1 h2 =>
        refine cw_of call_len_seq ⟨_, _, rfl, .inl (sqL_ext0 hid_ext h1), ?_⟩
        rw [h2.length]; exact q _ S H r0 (.int _)
    · cases z
  · split at e
    · rename_i hz; cases e
      rw [hx.str]
      exact cw_of call_len ⟨_, _, rfl, ⟨big_le hz, rfl⟩, q _ S H r0 (.int _)⟩
    · cases e
  · cases e
    rw [hx.int]
    refine cw_of call_abs ⟨_, rfl, ?_⟩
    rename_i i
    have : (if i < 0 then -i else i) = (i.natAbs : Int) := by split <;> omega
    rw [this]; exact q _ S H r0 (.int _)
  · cases e
    rw [hx.bool]
    exact cw_of call_int1 (.inr ⟨_, rfl, q _ S H r0 (.int _)⟩)
  · obtain ⟨p, vs, rfl, h1, h2⟩ := hx.lst
    rename_i xs
    cases hb : boolsOf xs with
    | none => rw [hb] at e; cases e
    | some bs =>
      rw [hb] at e
      cases e
      have z := bools_of h2 hb
      exact cw_of (cr_all hc) ⟨p, bs, rfl, SqL.of (by rw [← z]; exact h1), q _ S H r0 (.bl _)⟩
  · obtain ⟨p, vs, rfl, h1, h2⟩ := hx.lst
    rename_i xs
    cases hb : boolsOf xs with
    | none => rw [hb] at e; cases e
    | some bs =>
      rw [hb] at e
      cases e
      have z := bools_of h2 hb
      exact cw_of (cr_any hc) ⟨p, bs, rfl, SqL.of (by rw [← z]; exact h1), q _ S H r0 (.bl _)⟩
  · cases e
    obtain ⟨p, vs, rfl, h1, h2⟩ := hx.lst
    refine cw_of call_tupS ⟨p, vs, rfl, .inl ⟨SqL.of h1, fun l ob hl ho => ?_⟩⟩
    have f := Fr.alloc (O := fun _ => False) (o := .frz ob (.tup vs)) hd hl
    refine q _ _ _ f (.tup (sqS_new ?_ ho) (h2.mono f.hid))
    cases hs : S l with
    | false => rfl
    | true => exact absurd hl (hd l hs)
  · cases e
    obtain ⟨p, vs, rfl, h1, h2, h3⟩ := hx.tup
    exact cw_of call_tupS ⟨p, vs, rfl, .inr ⟨h1, q _ S H r0 h3⟩⟩
  · cases e
    obtain ⟨p, vs, rfl, h1, h2⟩ := hx.lst
    refine cw_of call_list_of ⟨p, vs, rfl, .inl (SqL.of h1), fun l hl => ?_⟩
    have f := Fr.allocH (O := fun _ => False) (o := .lst vs) hd hl
    exact q _ _ _ f ⟨l, _, rfl, hide_same, upd_same, h2.mono f.hid, hl⟩
  · cases e
    obtain ⟨p, vs, rfl, h1, h2, _⟩ := hx.tup
    refine cw_of call_list_of ⟨p, vs, rfl, .inr h1, fun l hl => ?_⟩
    have f := Fr.allocH (O := fun _ => False) (o := .lst vs) hd hl
    exact q _ _ _ f ⟨l, _, rfl, hide_same, upd_same, h2.mono f.hid, hl⟩
  · split at e
    · rename_i hz; cases e
      rw [hx.int]
      exact cw_of call_str_int ⟨_, rfl, hz, q _ S H r0 (.str _)⟩
    · cases e
  · split at e
    · rename_i hz
      cases e
      exact repr_sound hg hu hz.1 hz.2.1 hz.2.2.1 hz.2.2.2.1 hz.2.2.2.2 hx.dq (q _ S H r0 (.str _))
    · cases e
  · cases e
/-- a built-in as the name x stands for it -/
structure Blt (X : Cx) (x : Str) (u : Value) : Prop where
  gl : Gl X x
  mg : X.mg x = none
  bt : bootBuiltins x = some u
  nn : x ≠ "__name__"
  nd : (x == ("__debug__" : Str)) = false
theorem call_star {t : TA} {f : Value} {fn : Str} (bl : Blt X fn f) (hf : (∃ id, f = .builtin id) ∨ ∃ T, f = .type T) (ha : PA X (a :: es) t) (he : starEach (a :: es) X.env = (false, eval a X.env) :: starEach es X.env) (hpl : (backTo pos (starEach es X.env)).any (·.1) = false) :
    PE X (.Call (.Name fn p) (a :: es) [] pos) (tCB (CW X f) t) := by
  rcases hf with ⟨id, rfl⟩ | ⟨T, rfl⟩
  · exact pe_callB cw_ok bl.gl bl.mg bl.bt ha bl.nn bl.nd he hpl
  · exact pe_callTy cw_ok bl.gl bl.mg bl.bt ha bl.nn bl.nd he hpl
theorem b1V_is (k : B1) : (∃ id, b1V k = .builtin id) ∨ ∃ T, b1V k = .type T := by
  cases k <;> first | exact .inl ⟨_, rfl⟩ | exact .inr ⟨_, rfl⟩
theorem sx_b1 {k : B1} {fn : Str} (bl : Blt X fn (b1V k)) (ha : SX c X a ia) (hc : X.calm = true) (hg : X.A.guards = some []) (hu : X.A.units + 64 < cLine) (he : starEach [a] X.env = [(false, eval a X.env)]) : SX c X (.Call (.Name fn p) [a] [] pos) (.b1 k ia) := by
  refine sx_of (fun ρ S σ H Q hd en hp => ?_) rfl
  refine we_of (call_star bl (b1V_is k) (pa_cons pe_we pa_nil he) he rfl) ?_
  refine ha.sv ρ S σ H _ hd en (post_bnd hp fun d ρ1 h1 u S1 H1 f1 en1 s1 g1 => ?_)
  obtain ⟨val, e1, q⟩ := prim f1.dm en1 (post_shiftE f1 s1 h1)
  exact b1_sound e1 hc hg hu f1.dm (g1.now f1.dm en1) q
theorem sx_min2 {fn : Str} (bl : Blt X fn (.builtin "min")) (ha : SX c X a ia) (hb : SX c X b ib) (hc : X.calm = true) (he : starEach [a, b] X.env = [(false, eval a X.env), (false, eval b X.env)]) (hs : starEach [b] X.env = [(false, eval b X.env)]) : SX c X (.Call (.Name fn p) [a, b] [] pos) (.min2 ia ib) := by
  refine sx_of (fun ρ S σ H Q hd en hp => ?_) rfl
  refine we_of (call_star bl (.inl ⟨_, rfl⟩) (pa_cons pe_we (pa_cons pe_we pa_nil hs) (by rw [he, hs])) (by rw [he, hs]) (by rw [hs]; rfl)) ?_
  refine ha.se ρ S σ H _ hd en (post_bnd hp fun w ρ1 h1 u S1 H1 f1 en1 s1 g1 => ?_)
  refine hb.se ρ1 S1 σ H1 _ f1.dm en1 (post_bnd (post_shiftE f1 s1 h1) fun w' ρ2 h2 v S2 H2 f2 en2 s2 g2 => ?_)
  have h2 := post_shiftE f2 s2 h2
  cases w with
  | new ds => exact h2.elim
  | dat d =>
    cases w' with
    | new ds => cases d <;> exact h2.elim
    | dat d' =>
      cases d with
      | int i =>
        cases d' with
        | int j =>
          have g1 : Dq X.K (hid S1 H1) u (.int i) := g1
          have g2 : Dq X.K (hid S2 H2) v (.int j) := g2
          cases g1; cases g2
          exact cw_of (call_min2 hc) ⟨i, j, rfl, h2 _ S2 H2 (Fr.refl f2.dm) en2 Sub.refl (.int _)⟩
        | _ => exact h2.elim
      | _ => exact h2.elim
theorem sx_max2 {fn : Str} (bl : Blt X fn (.builtin "max")) (ha : SX c X a ia) (hb : SX c X b ib) (hc : X.calm = true) (he : starEach [a, b] X.env = [(false, eval a X.env), (false, eval b X.env)]) (hs : starEach [b] X.env = [(false, eval b X.env)]) : SX c X (.Call (.Name fn p) [a, b] [] pos) (.max2 ia ib) := by
  refine sx_of (fun ρ S σ H Q hd en hp => ?_) rfl
  refine we_of (call_star bl (.inl ⟨_, rfl⟩) (pa_cons pe_we (pa_cons pe_we pa_nil hs) (by rw [he, hs])) (by rw [he, hs]) (by rw [hs]; rfl)) ?_
  refine ha.se ρ S σ H _ hd en (post_bnd hp fun w ρ1 h1 u S1 H1 f1 en1 s1 g1 => ?_)
  refine hb.se ρ1 S1 σ H1 _ f1.dm en1 (post_bnd (post_shiftE f1 s1 h1) fun w' ρ2 h2 v S2 H2 f2 en2 s2 g2 => ?_)
  have h2 := post_shiftE f2 s2 h2
  cases w with
  | new ds => exact h2.elim
  | dat d =>
    cases w' with
    | new ds => cases d <;> exact h2.elim
    | dat d' =>
      cases d with
      | int i =>
        cases d' with
        | int j =>
          have g1 : Dq X.K (hid S1 H1) u (.int i) := g1
          have g2 : Dq X.K (hid S2 H2) v (.int j) := g2
          cases g1; cases g2
          exact cw_of (call_max2 hc) ⟨i, j, rfl, h2 _ S2 H2 (Fr.refl f2.dm) en2 Sub.refl (.int _)⟩
        | _ => exact h2.elim
      | _ => exact h2.elim

/-! ### isinstance -/
def tyN : Ty → String
  | .int => "int"
  | .bool => "bool"
  | .str => "str"
  | .list => "list"
  | .tuple => "tuple"
theorem dq_ty {K : PySem.W.Frag} {v : V} {d : PyData} (h : Dq K H v d) (hn : (dTy d).isSome = true) : ∃ T, dTy d = some T ∧ TyX K H v (.type T) := by
  cases h with
  | non => exact ⟨_, rfl, .base .non⟩
  | bl b => exact ⟨_, rfl, .base (.bl b)⟩
  | int i => exact ⟨_, rfl, .base (.int i)⟩
  | str i => exact ⟨_, rfl, .base (.str i)⟩
  | lst h1 _ => exact ⟨_, rfl, .base (.lst h1)⟩
  | tup h1 _ =>
    refine ⟨_, rfl, ?_⟩
    rcases h1 with ⟨o, h1, _⟩ | ⟨o, its, n, h1, h2, _⟩
    · exact .fTuple h1
    · exact .kTuple h1 h2
  | scr _ _ => cases hn
  | exc _ _ _ => cases hn
  | dct _ _ _ => cases hn
theorem kit_all {d : PyData} {T : String} (h : dTy d = some T) (t : Ty) : kitB T (tyN t) = some (tyD d t) := by
  cases d <;> cases h <;> cases t <;> (dsimp only [tyD, tyN]; decide +kernel)
end
end Iv
end

section
set_option Elab.async false
set_option linter.all false
set_option maxRecDepth 100000
set_option maxHeartbeats 2000000
namespace Iv
open PySem L2

section
variable {c : Cc} {X : Cx} {σ : St} {ρ : En} {S : Hd} {H : Hp} {Q : VK} {e a b t : Expr} {es : List Expr} {x y ia ib ic it : E} {pos p : Pos}
theorem ty_pe {k : Ty} {fn : Str} {p2 : Pos} (bl : Blt X fn (.type (tyN k))) : PE X (.Name fn p2) (tC (.ty (tyN k))) := pe_bltn bl.gl bl.mg bl.bt rfl bl.nn bl.nd
theorem sx_isi1 {k : Ty} {fn tn : Str} {p2 : Pos} (bl : Blt X fn (.builtin "isinstance")) (bt : Blt X tn (.type (tyN k))) (ha : SX c X a ia) (he : starEach [a, .Name tn p2] X.env = [(false, eval a X.env), (false, eval (.Name tn p2) X.env)]) :
    SX c X (.Call (.Name fn p) [a, .Name tn p2] [] pos) (.isi ia [k]) := by
  refine sx_of (fun ρ S σ H Q hd en hp => ?_) rfl
  refine we_of (call_star bl (.inl ⟨_, rfl⟩) (pa_cons pe_we (pa_cons (ty_pe bt) pa_nil rfl) he) he rfl) ?_
  refine ha.sv ρ S σ H _ hd en (post_bnd hp fun d ρ1 h1 u S1 H1 f1 en1 s1 g1 => ?_)
  have h1 := post_shiftE f1 s1 h1
  by_cases hn : (dTy d).isSome = true
  case neg => rw [if_neg hn] at h1; exact h1.elim
  rw [if_pos hn] at h1
  obtain ⟨T, e1, ty⟩ := dq_ty (g1.now f1.dm en1).dq hn
  refine cw_of call_isi ⟨u, _, _, _, _, rfl, .ty _, ty, kit_ty (kit_all e1 k), ?_⟩
  have q := h1 (.bl ([k].any (tyD d))) S1 H1 (Fr.refl f1.dm) en1 Sub.refl (.bl _)
  simpa using q
/-- names of built-in classes -/
inductive TyNs (X : Cx) : List Expr → List Ty → Prop
  | nil : TyNs X [] []
  | cons {k : Ty} {tn : Str} {p2 : Pos} {es : List Expr} {ks : List Ty} (bt : Blt X tn (.type (tyN k))) (h : TyNs X es ks) : TyNs X (.Name tn p2 :: es) (k :: ks)
theorem TyNs.pa {ks : List Ty} (h : TyNs X es ks) : PA X es (fun _ H Q => Q (ks.map fun k => V.ty (tyN k)) H) := by
  induction h with
  | nil => exact pa_nil
  | cons bt _ ih => exact pa_cons (ty_pe bt) ih rfl
theorem kit_any {K : PySem.W.Frag} {d : PyData} {T : String} (h : dTy d = some T) : ∀ ks : List Ty, PySem.W.kitAny K (.type T) (ks.map fun k => Value.type (tyN k)) = some (ks.any (tyD d))
  | [] => rfl
  | k :: ks => by
    show (match PySem.W.kitOne K (.type T) (.type (tyN k)) with
      | some true => some true
      | some false => PySem.W.kitAny K (.type T) (ks.map fun k => Value.type (tyN k))
      | none => none) = _
    rw [kit_ty (kit_all h k), List.any_cons]
    cases tyD d k with
    | true => rfl
    | false => simpa using kit_any h ks
theorem tys_cls : ∀ ks : List Ty, Paired ClsV (ks.map fun k => V.ty (tyN k)) (ks.map fun k => Value.type (tyN k))
  | [] => .nil
  | k :: ks => .cons (.ty _) (tys_cls ks)
theorem sx_isiT {ks : List Ty} {fn : Str} {k : Nat} {p2 : Pos} (bl : Blt X fn (.builtin "isinstance")) (bt : TyNs X es ks) (hl : ks.length ≤ 1000) (ha : SX c X a ia) (he : starEach [a, .Tuple es k p2] X.env = [(false, eval a X.env), (false, eval (.Tuple es k p2) X.env)]) :
    SX c X (.Call (.Name fn p) [a, .Tuple es k p2] [] pos) (.isi ia ks) := by
  refine sx_of (fun ρ S σ H Q hd en hp => ?_) rfl
  refine we_of (call_star bl (.inl ⟨_, rfl⟩) (pa_cons pe_we (pa_cons (pe_tup bt.pa) pa_nil rfl) he) he rfl) ?_
  refine ha.sv ρ S σ H _ hd en (post_bnd hp fun d ρ1 h1 u S1 H1 f1 en1 s1 g1 => ?_)
  have h1 := post_shiftE f1 s1 h1
  by_cases hn : (dTy d).isSome = true
  case neg => rw [if_neg hn] at h1; exact h1.elim
  rw [if_pos hn] at h1
  refine ⟨by rw [List.length_map]; exact Nat.le_trans hl (by decide), fun q hq => ?_⟩
  have f := Fr.alloc (O := fun _ => False) (o := .tup (ks.map fun k => V.ty (tyN k))) f1.dm hq
  have hx : Dq X.K (upd H1 q (.tup (ks.map fun k => V.ty (tyN k)))) u d := (g1.now f1.dm en1).dq.mono (Ext.new hq)
  obtain ⟨T, e1, ty⟩ := dq_ty hx hn
  refine cw_of call_isiT ⟨u, q, _, _, _, _, rfl, upd_same, tys_cls ks, ty, kit_any e1 ks, ?_⟩
  exact h1 _ S1 _ (f.imp fun _ z => z.elim) (en1.step0 f) Sub.refl (.bl _)
end

/-! ### calls of the program's own defs -/
inductive PArgsOk (K : PySem.W.Frag) (S : Hd) (H : Hp) : List V → List PArg → List Addr → Prop
  | nil : PArgsOk K S H [] [] []
  | d {v : V} {d : PyData} {vs : List V} {as : List PArg} {rs : List Addr} : Dq K (hid S H) v d → PArgsOk K S H vs as rs → PArgsOk K S H (v :: vs) (.d d :: as) rs
  | r {q : Addr} {us : List V} {ds : List PyData} {vs : List V} {as : List PArg} {rs : List Addr} : S q = true → H q = some (.lst us) → DqA K (hid S H) us ds → PArgsOk K S H vs as rs → PArgsOk K S H (.ref q :: vs) (.r ds :: as) (q :: rs)
/-- the lists at these places, behind a call -/
inductive RefsOk (K : PySem.W.Frag) (S : Hd) (H : Hp) : List Addr → List (List PyData) → Prop
  | nil : RefsOk K S H [] []
  | cons {q : Addr} {us : List V} {ds : List PyData} {rs : List Addr} {dss : List (List PyData)} : S q = true → H q = some (.lst us) → DqA K (hid S H) us ds → RefsOk K S H rs dss → RefsOk K S H (q :: rs) (ds :: dss)
/-- what a call's value is: new lists are no old ones -/
def VF (K : PySem.W.Frag) (H0 : Hp) (S : Hd) (H : Hp) (v : V) (val : Val) : Prop := PV K H0 S H v val
def PostF (K : PySem.W.Frag) (ca : Str → Value) (S : Hd) (H : Hp) (rs : List Addr) (Q : VK) (E : XK) : R (List (List PyData)) (Val × List (List PyData)) → Prop
  | .ok (val, dss) => ∀ v S' H', Fr S H (fun a => a ∈ rs) S' H' → RefsOk K S' H' rs dss → PV K H S' H' v val → Q v H'
  | .exc x dss => ∀ d S' H', Fr S H (fun a => a ∈ rs) S' H' → RefsOk K S' H' rs dss → XOk K S' H' d x → E (ca x.cls) (some d) H'
  | .bad => False
/-- the promise of a def that runs as the oracle says -/
def spO (K : PySem.W.Frag) (cl : Orc) (ca : Str → Value) (f : Str) : Sp := fun vs H Q E => ∃ S ps rs, Dm S H ∧ PArgsOk K S H vs ps rs ∧ rs.Nodup ∧ PostF K ca S H rs Q E (cl f ps)
/-- calls of f keep it -/
def CallOk (c : Cc) (X : Cx) (f : Str) : Prop := ∃ fa : Addr, X.mg f = some (.ref fa) ∧ PySem.W.keepIn X.K (.ref fa) = true ∧
  ∀ (σ : St) (vs : List V) (H : Hp) (Q : VK), spO X.K c.cl c.ca f vs H Q (fun cls d H' => c.W cls d σ H') → ∀ (pins : List (Addr × Obj)) (s : Shared) (us : List Value), Inv X pins σ H s → Vals vs us → wpAny (model X.prog X.w) X.A (call (.ref fa) us) (EP X pins σ Q) X.xe s
section
variable {c : Cc} {X : Cx} {K : PySem.W.Frag} {σ : St} {ρ : En} {S : Hd} {H : Hp} {Q : VK} {e a b t : Expr} {es : List Expr} {x y ia ib ic it : E} {pos p : Pos}
/-- the places of the names that are handed over -/
inductive RefAt (σ : St) : List Nat → List Addr → Prop
  | nil : RefAt σ [] []
  | cons {i : Nat} {q : Addr} {is : List Nat} {qs : List Addr} : σ[i]? = some (some (.ref q)) → RefAt σ is qs → RefAt σ (i :: is) (q :: qs)
theorem RefAt.mem {is : List Nat} {qs : List Addr} (h : RefAt σ is qs) {q : Addr} (hq : q ∈ qs) : ∃ i ∈ is, σ[i]? = some (some (.ref q)) := by
  induction h with
  | nil => cases hq
  | cons h1 h2 ih =>
    rcases List.mem_cons.mp hq with z | z
    · subst z; exact ⟨_, List.mem_cons_self, h1⟩
    · obtain ⟨i, m, e⟩ := ih z
      exact ⟨i, List.mem_cons_of_mem _ m, e⟩
theorem args_pargs (en : EnOk K S H σ ρ) : ∀ {as : List Arg} {vs : List V} {ps : List PArg}, ArgsOk K S H σ vs as → refsIn ρ as = some ps → ∃ rs, PArgsOk K S H vs ps rs ∧ RefAt σ (refIs as) rs ∧ ∀ i ∈ refIs as, ∃ ds, ρ[i]? = some (.own ds)
  | [], _, _, h, e => by cases h; cases e; exact ⟨[], .nil, .nil, fun _ z => by cases z⟩
  | .d x :: as, _, ps, h, e => by
    cases h with
    | d h1 h2 =>
      have e : (refsIn ρ as).map (.d x :: ·) = some ps := e
      cases hr : refsIn ρ as with
      | none => rw [hr] at e; cases e
      | some r =>
        rw [hr] at e
        cases e
        obtain ⟨rs, q1, q2, q3⟩ := args_pargs en h2 hr
        exact ⟨rs, .d h1 q1, q2, q3⟩
  | .r i :: as, _, ps, h, e => by
    cases h with
    | r h1 h2 =>
      have e : (match ρ[i]? with
        | some (.own ds) => (refsIn ρ as).map (.r ds :: ·)
        | _ => none) = some ps := e
      cases hi : ρ[i]? with
      | none => rw [hi] at e; cases e
      | some s =>
        rw [hi] at e
        cases s with
        | own ds =>
          cases hr : refsIn ρ as with
          | none => simp only [hr] at e; cases e
          | some r =>
            simp only [hr] at e
            cases e
            obtain ⟨rs, q1, q2, q3⟩ := args_pargs en h2 hr
            obtain ⟨q, us, e1, e2, e3, e4⟩ := en.slot i _ hi
            rw [h1] at e1
            cases e1
            exact ⟨q :: rs, .r e2 e3 e4 q1, .cons h1 q2, fun j hj => by
              rcases List.mem_cons.mp hj with z | z
              · subst z; exact ⟨ds, hi⟩
              · exact q3 j z⟩
        | _ => cases e
theorem refs_nodup (en : EnOk K S H σ ρ) : ∀ {is : List Nat} {qs : List Addr}, RefAt σ is qs → (∀ i ∈ is, ∃ ds, ρ[i]? = some (.own ds)) → is.Nodup → qs.Nodup
  | [], _, h, _, _ => by cases h; exact List.nodup_nil
  | i :: is, _, h, hw, nd => by
    cases h with
    | cons h1 h2 =>
      obtain ⟨n1, n2⟩ := List.nodup_cons.mp nd
      refine List.nodup_cons.mpr ⟨fun hq => ?_, refs_nodup en h2 (fun j hj => hw j (List.mem_cons_of_mem _ hj)) n2⟩
      obtain ⟨j, hj, ej⟩ := h2.mem hq
      obtain ⟨ds, hi⟩ := hw i List.mem_cons_self
      obtain ⟨ds', hj'⟩ := hw j (List.mem_cons_of_mem _ hj)
      have nij : i ≠ j := fun z => n1 (by rw [z]; exact hj)
      exact en.apart i j _ _ _ nij hi hj' rfl rfl h1 ej
/-- the names behind a call -/
theorem back_at : ∀ {is : List Nat} {dss : List (List PyData)} {ρ ρ' : En}, backRefs ρ is dss = some ρ' → is.Nodup → ρ'.length = ρ.length ∧ (∀ j, j ∉ is → ρ'[j]? = ρ[j]?) ∧ ∀ (k : Nat) (i : Nat), is[k]? = some i → i < ρ.length → ∃ ds, dss[k]? = some ds ∧ ρ'[i]? = some (.own ds)
  | [], [], _, _, h, _ => by cases h; exact ⟨rfl, fun _ _ => rfl, fun k i z => by simp at z⟩
  | [], _ :: _, _, _, h, _ => by cases h
  | _ :: _, [], _, _, h, _ => by cases h
  | i :: is, ds :: dss, ρ, ρ', h, nd => by
    obtain ⟨n1, n2⟩ := List.nodup_cons.mp nd
    obtain ⟨q0, q1, q2⟩ := back_at (ρ := ρ.set i (.own ds)) h n2
    rw [List.length_set] at q0
    refine ⟨q0, fun j hj => ?_, fun k j hk hl => ?_⟩
    · rw [q1 j fun z => hj (List.mem_cons_of_mem _ z), List.getElem?_set_ne fun z => hj (by rw [z]; exact List.mem_cons_self)]
    · cases k with
      | zero =>
        have e : i = j := by simpa using hk
        subst e
        exact ⟨ds, rfl, by rw [q1 i n1, List.getElem?_set_self hl]⟩
      | succ k =>
        obtain ⟨d, e1, e2⟩ := q2 k j (by simpa using hk) (by rw [List.length_set]; exact hl)
        exact ⟨d, by simpa using e1, e2⟩
theorem RefsOk.get {rs : List Addr} {dss : List (List PyData)} {k : Nat} {q : Addr} (h : RefsOk K S H rs dss) (e : rs[k]? = some q) : ∃ us ds, dss[k]? = some ds ∧ S q = true ∧ H q = some (.lst us) ∧ DqA K (hid S H) us ds := by
  induction h generalizing k with
  | nil => simp at e
  | cons h1 h2 h3 _ ih =>
    cases k with
    | zero =>
      simp only [List.getElem?_cons_zero, Option.some.injEq] at e
      subst e
      exact ⟨_, _, rfl, h1, h2, h3⟩
    | succ k =>
      obtain ⟨us, ds, e1, e2, e3, e4⟩ := ih (k := k) (by simpa using e)
      exact ⟨us, ds, by simpa using e1, e2, e3, e4⟩
theorem RefAt.get {is : List Nat} {qs : List Addr} {k : Nat} {i : Nat} (h : RefAt σ is qs) (e : is[k]? = some i) : ∃ q, qs[k]? = some q ∧ σ[i]? = some (some (.ref q)) := by
  induction h generalizing k with
  | nil => simp at e
  | cons h1 _ ih =>
    cases k with
    | zero =>
      simp only [List.getElem?_cons_zero, Option.some.injEq] at e
      subst e
      exact ⟨_, rfl, h1⟩
    | succ k =>
      obtain ⟨q, e1, e2⟩ := ih (k := k) (by simpa using e)
      exact ⟨q, by simpa using e1, e2⟩
theorem back_en {is : List Nat} {rs : List Addr} {dss : List (List PyData)} {ρ' : En} {S' : Hd} {H' : Hp} (en : EnOk K S H σ ρ) (ra : RefAt σ is rs) (ho : ∀ i ∈ is, ∃ ds, ρ[i]? = some (.own ds)) (nd : is.Nodup) (hb : backRefs ρ is dss = some ρ')
    (f : Fr S H (fun a => a ∈ rs) S' H') (hr : RefsOk K S' H' rs dss) : EnOk K S' H' σ ρ' ∧ Sub σ ρ ρ' := by
  obtain ⟨q0, q1, q2⟩ := back_at hb nd
  -- each name: one of the refs, or as before
  have each : ∀ (j : Nat) (s : Slot), ρ'[j]? = some s → (∃ ds q us, s = .own ds ∧ σ[j]? = some (some (.ref q)) ∧ S' q = true ∧ H' q = some (.lst us) ∧ DqA K (hid S' H') us ds ∧ ∃ d0, ρ[j]? = some (.own d0)) ∨ (j ∉ is ∧ ρ[j]? = some s) := fun j s hj => by
    by_cases hm : j ∈ is
    · obtain ⟨k, hk⟩ := List.getElem?_of_mem hm
      obtain ⟨d0, h0⟩ := ho j hm
      obtain ⟨ds, e1, e2⟩ := q2 k j hk (List.getElem?_eq_some_iff.mp h0).1
      rw [hj] at e2
      cases e2
      obtain ⟨q, e3, e4⟩ := ra.get hk
      obtain ⟨us, ds', e5, e6, e7, e8⟩ := hr.get e3
      rw [e1] at e5
      cases e5
      exact .inl ⟨ds, q, us, rfl, e4, e6, e7, e8, d0, h0⟩
    · exact .inr ⟨hm, by rw [← q1 j hm]; exact hj⟩
  have old : ∀ (j : Nat) (s : Slot), ρ'[j]? = some s → isOwn s = true → ∃ s0, ρ[j]? = some s0 ∧ isOwn s0 = true := fun j s hj o => by
    rcases each j s hj with ⟨ds, q, us, rfl, _, _, _, _, d0, h0⟩ | ⟨_, h0⟩
    · exact ⟨_, h0, rfl⟩
    · exact ⟨s, h0, o⟩
  refine ⟨⟨by rw [q0]; exact en.len, fun j s hj => ?_, fun j k sj sk q njk hj hk oj ok' ej => ?_⟩, fun q ⟨j, s, hj, oj, ej⟩ => ?_⟩
  · rcases each j s hj with ⟨ds, q, us, rfl, e1, e2, e3, e4, _⟩ | ⟨hm, h0⟩
    · exact ⟨q, us, e1, e2, e3, e4⟩
    · refine (en.slot j s h0).step f fun q oq eq hq => ?_
      obtain ⟨i, hi, ei⟩ := ra.mem hq
      obtain ⟨ds, h1⟩ := ho i hi
      exact en.apart j i s _ q (fun z => hm (by rw [z]; exact hi)) h0 h1 oq rfl eq ei
  · obtain ⟨s1, h1, o1⟩ := old j sj hj oj
    obtain ⟨s2, h2, o2⟩ := old k sk hk ok'
    exact en.apart j k s1 s2 q njk h1 h2 o1 o2 ej
  · obtain ⟨s1, h1, o1⟩ := old j s hj oj
    exact ⟨j, s1, h1, o1, ej⟩
theorem call_sound {f : Str} {fa : Addr} {vs : List V} {as : List Arg} (en : EnOk X.K S H σ ρ) (hd : Dm S H) (ha : ArgsOk X.K S H σ vs as) (hp : PostG c X.K σ ρ S H (GE X.K σ H) Q (callGo c.cl f as ρ)) : spO X.K c.cl c.ca f vs H Q (fun cls d H' => c.W cls d σ H') := by
  unfold callGo at hp
  cases hr : refsIn ρ as with
  | none => rw [hr] at hp; exact hp.elim
  | some ps =>
    rw [hr] at hp
    obtain ⟨rs, pa, ra, ho⟩ := args_pargs en ha hr
    by_cases nd : (refIs as).Nodup
    · simp only [if_pos nd] at hp
      have ndr := refs_nodup en ra ho nd
      have own : ∀ q, q ∈ rs → Owns σ ρ q := fun q hq => by
        obtain ⟨i, hi, ei⟩ := ra.mem hq
        obtain ⟨ds, h1⟩ := ho i hi
        exact ⟨i, _, h1, rfl, ei⟩
      refine ⟨S, ps, rs, hd, pa, ndr, ?_⟩
      cases ho' : c.cl f ps with
      | bad => rw [ho'] at hp; exact hp.elim
      | ok r =>
        obtain ⟨val, dss⟩ := r
        rw [ho'] at hp
        simp only at hp
        intro v S' H' f' hrf pv
        cases hb : backRefs ρ (refIs as) dss with
        | none => rw [hb] at hp; exact hp.elim
        | some ρ' =>
          rw [hb] at hp
          obtain ⟨en', sb⟩ := back_en en ra ho nd hb f' hrf
          refine hp v S' H' (f'.imp own) en' sb ?_
          have q := pv_vok (ρ := ρ) en pv
          cases val with
          | dat d => exact q
          | new ds =>
            obtain ⟨p, vs, e1, e2, e3, e4, e5, e6⟩ := q
            exact ⟨p, vs, e1, e2, e3, e4, fun z => e5 (sb p z), e6⟩
      | exc z dss =>
        rw [ho'] at hp
        simp only at hp
        intro d S' H' f' hrf xo
        cases hb : backRefs ρ (refIs as) dss with
        | none => rw [hb] at hp; exact hp.elim
        | some ρ' =>
          rw [hb] at hp
          obtain ⟨en', sb⟩ := back_en en ra ho nd hb f' hrf
          exact hp d S' H' (f'.imp own) en' sb xo
    · simp only [if_neg nd] at hp; exact hp.elim
/-- f(e, ..) -/
theorem sx_call {f : Str} (hf : CallOk c X f) (hg : Gl X f) (hdb : (f == ("__debug__" : Str)) = false) (ha : SA c X (a :: es) x) (he : starEach (a :: es) X.env = (false, eval a X.env) :: starEach es X.env) (hpl : (backTo pos (starEach es X.env)).any (·.1) = false) :
    SX c X (.Call (.Name f p) (a :: es) [] pos) (.call f x) := by
  refine sx_of (fun ρ S σ H Q hd en hp => ?_) rfl
  obtain ⟨fa, hm, hk, run⟩ := hf
  intro pins s I
  have w : WA X (a :: es) σ H (fun vs H1 => spO X.K c.cl c.ca f vs H1 Q (fun cls d H' => c.W cls d σ H')) :=
    ha.go ρ S σ H _ hd en (post_bnd hp fun as ρ1 h1 us S1 H1 f1 en1 s1 g1 => call_sound (fa := fa) en1 f1.dm g1 (post_shiftE f1 s1 h1))
  refine wpAny_Call_Name_kw (ld_glob I hg hm ?_ hdb)
  refine PySem.W.callWith_K (h₀ := X.base) I.ok.mod.kin hk ?_ he hpl
  exact thn (w pos pins s I) fun us s1 ⟨vs, H1, I1, r, q⟩ => ⟨I1.kIn, run σ vs H1 Q q pins s1 us I1 r⟩
/-- f() -/
theorem sx_call0 {f : Str} (hf : CallOk c X f) (hg : Gl X f) (hdb : (f == ("__debug__" : Str)) = false) : SX c X (.Call (.Name f p) [] [] pos) (.call f .nil) := by
  refine sx_of (fun ρ S σ H Q hd en hp => ?_) rfl
  obtain ⟨fa, hm, hk, run⟩ := hf
  intro pins s I
  refine wpAny_Call_Name_kw (ld_glob I hg hm ?_ hdb)
  have q := call_sound (fa := fa) (vs := []) (as := []) en hd .nil hp
  exact PySem.W.callWith_K0 I.kIn hk (run σ [] H Q q pins s [] I .nil)
end
end Iv
end

section
set_option Elab.async false
set_option linter.all false
set_option maxRecDepth 100000
set_option maxHeartbeats 2000000
namespace IvRev
open PySem PySem.Spec PyProof.Rows L2
theorem adj (n : Nat) : Builtin.Slice.sliceAdjust none none (-1) (n : Int) = ((n : Int) - 1, -1) := by
  unfold Builtin.Slice.sliceAdjust
  simp
theorem plc (n : Nat) : Builtin.Slice.slicePlaces ((n : Int) - 1) (-1) (-1) = n := by
  unfold Builtin.Slice.slicePlaces
  simp
  omega
theorem pick (xs : Array Value) : ((List.range xs.size).filterMap fun (m : Nat) => xs[(((xs.size : Nat) : Int) - 1 + (m : Int) * (-1)).toNat]?).toArray = xs.toList.reverse.toArray := by
  have e : (fun (m : Nat) => xs[(((xs.size : Nat) : Int) - 1 + (m : Int) * (-1)).toNat]?) = (fun i => xs[i]?) ∘ fun k => xs.size - 1 - k := by
    funext m
    have q : (((xs.size : Nat) : Int) - 1 + (m : Int) * (-1)).toNat = xs.size - 1 - m := by omega
    simp only [Function.comp_apply]
    rw [q]
  rw [e, ← List.filterMap_map, PySem.W.krv_range, List.filterMap_reverse, PySem.W.krv_all]
section
variable {prog : Program} {w : World} {A : Around} {E : Value → Shared → Prop} {s : Shared}
theorem applied {sl : Addr} {vl vu vk : Value} {n : Nat} {Q : Int × Int × Nat → Shared → Prop} (hs : s.heap.IsSliceOf sl vl vu vk) (pl : IsPart vl none) (pu : IsPart vu none) (pk : IsPart vk (some (-1)))
    (h : Q ((n : Int) - 1, -1, n) s) : wpAny (model prog w) A (Builtin.Slice.sliceApplied (.ref sl) (pure (n : Int))) Q E s := by
  obtain ⟨os, hos, hcs, hds⟩ := id hs
  unfold Builtin.Slice.sliceApplied Builtin.Slice.sliceFields
  refine wpAny_bind (wpAny_bind (wpAny_field hos hds (x := vl) rfl (wpAny_bind (wpAny_field hos hds (x := vu) rfl (wpAny_bind (wpAny_field hos hds (x := vk) rfl (wpAny_pure ?_)))))))
  refine wpAny_bind (HT.slicePart_ pk ?_)
  show wpAny _ _ (if ((-1 : Int) == 0) = true then _ else _) _ _ s
  rw [if_neg (by decide)]
  refine wpAny_bind (HT.slicePart_ pl (wpAny_bind (HT.slicePart_ pu (wpAny_bind (wpAny_pure ?_)))))
  show wpAny _ _ (match Builtin.Slice.sliceAdjust none none (-1) (n : Int) with | (lo, hi) => pure (lo, (-1 : Int), Builtin.Slice.slicePlaces lo hi (-1))) _ _ s
  rw [adj n]
  show wpAny _ _ (pure ((n : Int) - 1, (-1 : Int), Builtin.Slice.slicePlaces ((n : Int) - 1) (-1) (-1))) _ _ s
  rw [plc]
  exact wpAny_pure h
theorem got {t sl : Addr} {items : Array Value} {vl vu vk : Value} {Q : Value → Shared → Prop} (ht : IsTup s.heap t items) (hs : s.heap.IsSliceOf sl vl vu vk) (pl : IsPart vl none) (pu : IsPart vu none) (pk : IsPart vk (some (-1)))
    (h : Q (.ref s.heap.objs.size) { s with heap := s.heap.push { cls := .type "tuple", data := .seq items.toList.reverse.toArray } }) (hz : items.size ≤ sizeLine) : wpAny (model prog w) A (getItem (.ref t) (.ref sl)) Q E s := by
  have hk : sizeOk (.seq items.toList.reverse.toArray) := by
    show items.toList.reverse.toArray.size ≤ sizeLine
    rw [List.size_toArray, List.length_reverse, Array.length_toList]
    exact hz
  obtain ⟨os, hos, hcs, hds⟩ := id hs
  have hT : s.TypeIs (.ref sl) "slice" := ⟨os, hos, hcs⟩
  unfold getItem
  try with_reducible refine wpAny_holding ?_
  first | refine wpAny_bind (wpAny_pure ?_) | skip
  refine wpAny_bind (wpAny_sequenceKey ht.typeIs (by decide) ?_)
  refine wpAny_bind (wpAny_callSpecial?_slot (name := Str.ofString "__getitem__") ht.typeIs PyProof.Rows.slot_tuple_getitem (wpAny_call_entry PyProof.Rows.slot_tuple_getitem ht.typeIs PyProof.Rows.entry_tuple_getitem ?_ (PyProof.Rows.args_tuple_getitem _ _)))
  show wpAny _ _ (Builtin.Tuple.tupleItemsOf (.ref t) >>= _) _ _ s
  refine wpAny_bind (PyProof.Rows.tupleItemsOf_ ht (wpAny_bind (wpAny_typeOf hT ?_)))
  rw [if_pos (by decide)]
  refine wpAny_bind (applied (n := items.size) hs pl pu pk ?_)
  have no : ¬ ((((items.size : Nat) : Int) - 1 == 0 && (-1 : Int) == 1 && items.size == items.size) = true) := by simp
  show wpAny _ _ (if (((items.size : Nat) : Int) - 1 == 0 && (-1 : Int) == 1 && items.size == items.size) = true then _ else _) _ _ s
  rw [if_neg no, pick]
  first
    | exact wpAny_bind (m := Builtin.Tuple.tupleExact _) (wpAny_newObj_type (wpAny_pure ⟨_, rfl, wpAny_pure h⟩) hk)
    | exact wpAny_bind (m := Builtin.Tuple.tupleExact _) (wpAny_newObj_type (wpAny_bind (wpAny_pure (wpAny_pure ⟨_, rfl, wpAny_pure h⟩))) hk)
    | exact wpAny_bind (wpAny_bind (m := Builtin.Tuple.tupleExact _) (wpAny_newObj_type (wpAny_pure (wpAny_pure ⟨_, rfl, wpAny_pure h⟩)) hk))
    | exact wpAny_bind (wpAny_bind (m := Builtin.Tuple.tupleExact _) (wpAny_newObj_type (wpAny_pure ⟨_, rfl, wpAny_pure h⟩) hk))
end
def tRevT (K : PySem.W.Frag) (te : TE) : TE := fun σ H Q => te σ H fun x H1 => ∃ a xs, x = .ref a ∧ SqT K H1 a xs ∧ NewT H1 xs.reverse Q
theorem pe_revT {X : Cx} {e : Expr} {te : TE} {k : Nat} {p1 p2 p3 pos : Pos} (he : PE X e te) : PE X (.Subscript e (.Slice none none (some (.UnaryOp .USub (.Constant (.int 1) k p1) p2)) p3) pos) (tRevT X.K te) := by
  refine ⟨fun pins s σ H Q I h => Subscript_ (thn (he.run pins s σ H _ I h) fun v s1 ⟨x, H1, I1, r1, q1⟩ => ?_)⟩
  obtain ⟨a, xs, ex, hx, q⟩ := q1
  cases ex
  cases r1
  have st : PO X (some (.UnaryOp .USub (.Constant (.int 1) k p1) p2)) (tPart (tUn (rU fun i => .int (-i)) (tC (.int 1)))) := po_some (pe_un un_neg pe_int)
  refine wpAny_Slice (thn (po_none.run pins s1 σ H1 (fun o G => o = none ∧ G = H1) I1 ⟨rfl, rfl⟩) fun vl s2 ⟨_, G2, I2, pl, z1, z2⟩ => ?_)
  cases z1
  cases z2
  refine thn (po_none.run pins s2 σ H1 (fun o G => o = none ∧ G = H1) I2 ⟨rfl, rfl⟩) fun vu s3 ⟨_, G3, I3, pu, z3, z4⟩ => ?_
  cases z3
  cases z4
  refine thn (st.run pins s3 σ H1 (fun o G => o = some (-1) ∧ G = H1) I3 ⟨1, rfl, -1, rfl, rfl, rfl⟩) fun vk s4 ⟨_, G4, I4, pk, z5, z6⟩ => ?_
  cases z5
  cases z6
  have I5 : Inv X pins σ H1 { s4 with heap := s4.heap.push { cls := .type "slice", data := .fields #[vl, vu, vk] } } := I4.kept (t' := s4.toks) fun _ _ y => Heap.get?_push_of_some _ y
  obtain ⟨its, r, ht, hz⟩ := I5.tuple hx
  have hlen := r.length
  show wpAny (model X.prog X.w) X.A (subscriptTail e (.Slice none none (some (.UnaryOp .USub (.Constant (.int 1) k p1) p2)) p3) (.ref a) (.ref s4.heap.objs.size)) (EP X pins σ Q) X.xe { s4 with heap := s4.heap.push { cls := .type "slice", data := .fields #[vl, vu, vk] } }
  refine tail_any (ops := [.ref a, .ref s4.heap.objs.size]) ht.typeIs PyProof.Rows.slot_tuple_getitem.lookup ?_ (by with_unfolding_all rfl)
  refine got ht (Heap.IsSliceOf.new _ vl vu vk) pl pu pk ?_ (by rw [List.size_toArray]; omega)
  exact newT_at I5 (by rw [List.length_reverse]; exact hz) r.reverse q
end IvRev
namespace Iv
open PySem L2
theorem DqA.snoc_rev {K : PySem.W.Frag} {H : Hp} : ∀ {ds : List PyData} {vs : List V}, DqA K H vs ds → DqA K H vs.reverse ds.reverse
  | [], _, h => by cases h; exact .nil
  | d :: ds, _, h => by
    cases h with
    | cons h1 h2 => rw [List.reverse_cons, List.reverse_cons]; exact (DqA.snoc_rev h2).append (.cons h1 .nil)
/-- e[::-1] -/
theorem sx_rev {c : Cc} {X : Cx} {a : Expr} {ia : E} {k : Nat} {p1 p2 p3 pos : Pos} (ha : SX c X a ia) : SX c X (.Subscript a (.Slice none none (some (.UnaryOp .USub (.Constant (.int 1) k p1) p2)) p3) pos) (.rev ia) := by
  refine sx_of (fun ρ S σ H Q hd en hp => ?_) rfl
  have hp : PostG c X.K σ ρ S H (GE X.K σ H) Q (bnd (vwOf ia ρ (ev c.cl ia ρ)) fun x ρ1 => ofO ρ1 (revD x)) := hp
  have fin : ∀ {d : PyData} {val : Val} {S1 : Hd} {H1 : Hp} {v : V}, revD d = some val → Dm S1 H1 → Dw X.K S1 H1 v d → (∀ w S' H', Fr S1 H1 (fun _ => False) S' H' → PV X.K H1 S' H' w val → Q w H') →
      (∃ a xs, v = .ref a ∧ SqL X.K H1 a xs ∧ (∃ ds, d = .list ds) ∧ ∀ p, H1 p = none → Q (.ref p) (upd H1 p (.lst xs.reverse))) ∨ (∃ a xs, v = .ref a ∧ SqT X.K H1 a xs ∧ (∃ ds, d = .tuple ds) ∧ NewT H1 xs.reverse Q) := by
    intro d val S1 H1 v e dm dw q
    unfold revD at e
    split at e
    · cases e
      obtain ⟨p, vs, rfl, h1, h2⟩ := dw.lst
      refine .inl ⟨p, vs, rfl, SqL.of h1, ⟨_, rfl⟩, fun l hl => ?_⟩
      have f := Fr.allocH (O := fun _ => False) (o := .lst vs.reverse) dm hl
      exact q _ _ _ f ⟨l, _, rfl, hide_same, upd_same, h2.snoc_rev.mono f.hid, hl⟩
    · rename_i ds
      have e : val = .dat (.tuple ds.reverse) := by
        split at e
        · exact (Option.some.inj e).symm
        · rename_i z
          have z : ds = [] := by simpa using z
          subst z
          exact (Option.some.inj e).symm
      subst e
      obtain ⟨p, vs, rfl, h1, h2, _⟩ := dw.tup
      refine .inr ⟨p, vs, rfl, h1, ⟨_, rfl⟩, fun l ob hl ho => ?_⟩
      have f := Fr.alloc (O := fun _ => False) (o := .frz ob (.tup vs.reverse)) dm hl
      refine q _ _ _ f (.tup (sqS_new ?_ ho) (h2.snoc_rev.mono f.hid))
      cases hs : S1 l with
      | false => rfl
      | true => exact absurd hl (dm l hs)
    · cases e
  -- which of the two it is, is known ahead
  cases hr : vwOf ia ρ (ev c.cl ia ρ) with
  | bad => rw [hr] at hp; exact hp.elim
  | exc z ρ' =>
    rw [hr] at hp
    exact we_of (pe_revL pe_we) (ha.sv ρ S σ H _ hd en (by rw [hr]; exact hp))
  | ok r =>
    obtain ⟨d, ρ1⟩ := r
    rw [hr] at hp
    have hp : PostG c X.K σ ρ S H (GE X.K σ H) Q (ofO ρ1 (revD d)) := hp
    have go : ∀ v S1 H1, Fr S H (Owns σ ρ) S1 H1 → EnOk X.K S1 H1 σ ρ1 → Sub σ ρ ρ1 → GV X.K σ ia d v S1 H1 ρ1 → ∃ val, revD d = some val ∧ Dm S1 H1 ∧ Dw X.K S1 H1 v d ∧ ∀ w S' H', Fr S1 H1 (fun _ => False) S' H' → PV X.K H1 S' H' w val → Q w H' := by
      intro v S1 H1 f1 en1 s1 g1
      obtain ⟨val, e1, q⟩ := prim f1.dm en1 (post_shiftE f1 s1 hp)
      exact ⟨val, e1, f1.dm, VwOk.now g1 f1.dm en1, q⟩
    by_cases hl : ∃ ds, d = .list ds
    · refine we_of (pe_revL pe_we) (ha.sv ρ S σ H _ hd en ?_)
      rw [hr]
      intro v S1 H1 f1 en1 s1 g1
      obtain ⟨val, e1, dm, dw, q⟩ := go v S1 H1 f1 en1 s1 g1
      rcases fin e1 dm dw q with ⟨a, xs, e, h, _, k⟩ | ⟨a, xs, e, h, ⟨ds, z⟩, k⟩
      · exact ⟨a, xs, e, h, k⟩
      · obtain ⟨ds', z'⟩ := hl
        rw [z] at z'
        cases z'
    · refine we_of (IvRev.pe_revT pe_we) (ha.sv ρ S σ H _ hd en ?_)
      rw [hr]
      intro v S1 H1 f1 en1 s1 g1
      obtain ⟨val, e1, dm, dw, q⟩ := go v S1 H1 f1 en1 s1 g1
      rcases fin e1 dm dw q with ⟨a, xs, e, h, z, k⟩ | ⟨a, xs, e, h, ⟨ds, z⟩, k⟩
      · exact absurd z hl
      · exact ⟨a, xs, e, h, k⟩
end Iv
end

section
set_option Elab.async false
set_option linter.all false
set_option maxRecDepth 100000
set_option maxHeartbeats 2000000
namespace Iv
open PySem PySem.Spec L2

/-! ### calls with keywords alone -/
def WK (X : Cx) (kws : List Keyword) : TA := fun σ H Q => ∀ (p : Pos) (pins : List (Addr × Obj)) (s : Shared), Inv X pins σ H s → wpAny (model X.prog X.w) X.A (evalAll ((backToKw p (keywordEach kws X.env)).map (·.2))) (AP X pins σ Q) X.xe s
section
variable {c : Cc} {X : Cx} {σ : St} {ρ : En} {S : Hd} {H : Hp} {Q : VK} {e a b : Expr} {kws : List Keyword} {x y : E} {pos p kpos : Pos} {nm : Option Str}
theorem pk_wk : PK X kws (WK X kws) := ⟨fun p pins s σ H Q I h => h p pins s I⟩
theorem wk_of {t : TA} {Q : List V → Hp → Prop} (h : PK X kws t) (q : t σ H Q) : WK X kws σ H Q := fun p pins s I => h.run p pins s σ H Q I q
structure SK (c : Cc) (X : Cx) (kws : List Keyword) (x : E) : Prop where
  go : ∀ ρ S σ H Q, Dm S H → EnOk X.K S H σ ρ → PostG c X.K σ ρ S H (GA X.K σ) Q (evs c.cl x ρ) → WK X kws σ H Q
theorem sk_nil : SK c X [] .nil := ⟨fun ρ S σ H Q hd en hp => wk_of pk_nil (hp [] S H (Fr.refl hd) en Sub.refl .nil)⟩
theorem sk_cons (ha : SX c X a x) (hr : SK c X kws y) (hx : isRef x = false) : SK c X (⟨nm, a, kpos⟩ :: kws) (.cons x y) := by
  refine ⟨fun ρ S σ H Q hd en hp => ?_⟩
  rw [evs_cons hx] at hp
  refine wk_of (pk_cons pe_we pk_wk) ?_
  refine ha.se.sd ρ S σ H _ hd en (post_map (f := Val.d) (post_bnd hp fun v ρ1 h1 u S1 H1 f1 en1 s1 g1 => ?_))
  refine hr.go ρ1 S1 σ H1 _ f1.dm en1 (post_bnd (post_shift f1 s1 h1 fun _ _ _ _ _ _ g => g) fun as ρ2 h2 us S2 H2 f2 en2 s2 g2 => ?_)
  exact h2 (u :: us) S2 H2 f2 en2 s2 (.d (g1.mono f2.hid) g2)
/-- calls of f by the keywords ks -/
def CallOkK (c : Cc) (X : Cx) (f : Str) (ks : List Str) (perm : List Nat) : Prop := ∃ fa : Addr, X.mg f = some (.ref fa) ∧ PySem.W.keepIn X.K (.ref fa) = true ∧
  ∀ (σ : St) (vs : List V) (H : Hp) (Q : VK), vs.length = ks.length → spO X.K c.cl c.ca f (permL perm vs) H Q (fun cls d H' => c.W cls d σ H') → ∀ (pins : List (Addr × Obj)) (s : Shared) (us : List Value), Inv X pins σ H s → Vals vs us → wpAny (model X.prog X.w) X.A (call (.ref fa) [] (ks.zip us)) (EP X pins σ Q) X.xe s
theorem dqa_args {K : PySem.W.Frag} : ∀ {ds : List PyData} {vs : List V}, DqA K (hid S H) vs ds → ArgsOk K S H σ vs (ds.map .d)
  | [], _, h => by cases h; exact .nil
  | d :: ds, _, h => by
    cases h with
    | cons h1 h2 => exact .d h1 (dqa_args h2)
theorem dqa_perm {K : PySem.W.Frag} {ds : List PyData} {vs : List V} (h : DqA K H vs ds) : ∀ (perm : List Nat), (∀ i ∈ perm, i < ds.length) → DqA K H (permL perm vs) (permL perm ds)
  | [], _ => .nil
  | i :: perm, hp => by
    obtain ⟨v, e1, q⟩ := h.get (List.getElem?_eq_getElem (hp i List.mem_cons_self))
    have ih := dqa_perm h perm fun j hj => hp j (List.mem_cons_of_mem _ hj)
    unfold permL at ih ⊢
    rw [List.filterMap_cons, List.filterMap_cons, e1, List.getElem?_eq_getElem (hp i List.mem_cons_self)]
    exact .cons q ih
theorem permL_map {α β : Type} (f : α → β) (perm : List Nat) (l : List α) : permL perm (l.map f) = (permL perm l).map f := by
  unfold permL
  induction perm with
  | nil => rfl
  | cons i r ih =>
    rw [List.filterMap_cons, List.filterMap_cons, List.getElem?_map]
    cases l[i]? with
    | none => exact ih
    | some a => exact congrArg (f a :: ·) ih
theorem args_len {K : PySem.W.Frag} : ∀ {as : List Arg} {vs : List V}, ArgsOk K S H σ vs as → vs.length = as.length
  | [], _, h => by cases h; rfl
  | _ :: as, _, h => by
    cases h with
    | d _ h2 => exact congrArg (· + 1) (args_len h2)
    | r _ h2 => exact congrArg (· + 1) (args_len h2)
/-- f(k = e, ..) -/
theorem sx_callK {f : Str} {ks : List Str} {perm : List Nat} (hf : CallOkK c X f ks perm) (hg : Gl X f) (hdb : (f == ("__debug__" : Str)) = false) (ha : SK c X kws x) (hn : ∀ {ρ ρ' as}, evs c.cl x ρ = .ok (as, ρ') → as.length = ks.length)
    (hall : (backToKw pos (keywordEach kws X.env)).all (·.1.isSome) = true) (hks : (backToKw pos (keywordEach kws X.env)).filterMap (·.1) = ks) (hpl : ((backTo pos (starEach [] X.env)).any (·.1) || (backToKw pos (keywordEach kws X.env)).any (·.1.isNone)) = false) :
    SX c X (.Call (.Name f p) [] kws pos) (.callk f x perm) := by
  refine sx_of (fun ρ S σ H Q hd en hp => ?_) rfl
  obtain ⟨fa, hm, hk, run⟩ := hf
  intro pins s I
  have w : WK X kws σ H (fun vs H1 => vs.length = ks.length ∧ spO X.K c.cl c.ca f (permL perm vs) H1 Q (fun cls d H' => c.W cls d σ H')) := by
    refine ha.go ρ S σ H _ hd en ?_
    have hp : PostG c X.K σ ρ S H (GE X.K σ H) Q (bnd (evs c.cl x ρ) fun as ρ1 => match argsD as with
      | some ds => if perm.length = ds.length ∧ perm.all (fun i => decide (i < ds.length)) = true then callGo c.cl f (permL perm (ds.map .d)) ρ1 else .bad
      | none => .bad) := hp
    cases hr : evs c.cl x ρ with
    | bad => rw [hr] at hp; exact hp
    | exc z ρ' => rw [hr] at hp; exact hp
    | ok r =>
      obtain ⟨as, ρ1⟩ := r
      rw [hr] at hp
      intro us S1 H1 f1 en1 s1 g1
      have h1 := post_shiftE f1 s1 hp
      have h1 : PostG c X.K σ ρ1 S1 H1 (GE X.K σ H1) Q (match argsD as with
        | some ds => if perm.length = ds.length ∧ perm.all (fun i => decide (i < ds.length)) = true then callGo c.cl f (permL perm (ds.map .d)) ρ1 else .bad
        | none => .bad) := h1
      cases hd : argsD as with
      | none => rw [hd] at h1; exact h1.elim
      | some ds =>
        rw [hd] at h1
        have h1 : PostG c X.K σ ρ1 S1 H1 (GE X.K σ H1) Q (if perm.length = ds.length ∧ perm.all (fun i => decide (i < ds.length)) = true then callGo c.cl f (permL perm (ds.map .d)) ρ1 else .bad) := h1
        have D := args_data g1 hd
        have hl := hn hr
        have hl2 : us.length = as.length := args_len g1
        refine ⟨hl2.trans hl, ?_⟩
        by_cases hz : perm.length = ds.length ∧ perm.all (fun i => decide (i < ds.length)) = true
        · rw [if_pos hz, permL_map] at h1
          exact call_sound (fa := fa) en1 f1.dm (dqa_args (dqa_perm D perm fun i hi => by simpa using List.all_eq_true.mp hz.2 i hi)) h1
        · rw [if_neg hz] at h1; exact h1.elim
  refine wpAny_Call_Name_kw (ld_glob I hg hm ?_ hdb)
  refine PySem.W.callWith_KW0 (h₀ := X.base) I.ok.mod.kin hk hall ?_ hpl
  refine thn (w pos pins s I) fun us s1 ⟨vs, H1, I1, r, l, q⟩ => ⟨I1.kIn, ?_⟩
  rw [hks]
  exact run σ vs H1 Q l q pins s1 us I1 r
/-- the number of arguments -/
def cnt : E → Nat
  | .cons _ b => cnt b + 1
  | _ => 0
def noRef : E → Bool
  | .cons a b => !isRef a && noRef b
  | _ => true
theorem evs_len {cl : Orc} : ∀ (x : E) {ρ ρ' : En} {as : List Arg}, evs cl x ρ = .ok (as, ρ') → as.length = cnt x := by
  intro x
  induction x with
  | nil => intro ρ ρ' as h; cases h; rfl
  | cons a b iha ihb =>
    intro ρ ρ' as h
    cases hx : isRef a with
    | true =>
      cases a with
      | ref i =>
        have h : (match ρ[i]? with
          | some (.own _) => bnd (evs cl b ρ) fun as ρ1 => .ok (.r i :: as, ρ1)
          | _ => .bad) = R.ok (as, ρ') := h
        split at h
        · cases hb : evs cl b ρ with
          | ok r =>
            obtain ⟨bs, ρ1⟩ := r
            rw [hb] at h
            cases h
            show bs.length + 1 = cnt b + 1
            rw [ihb hb]
          | exc z e => rw [hb] at h; cases h
          | bad => rw [hb] at h; cases h
        · cases h
      | _ => cases hx
    | false =>
      rw [evs_cons hx] at h
      cases ha : ev cl a ρ with
      | bad => rw [ha] at h; cases h
      | exc z e => rw [ha] at h; cases h
      | ok r =>
        obtain ⟨v, ρ1⟩ := r
        rw [ha] at h
        have h : (bnd (evs cl b ρ1) fun as ρ2 => .ok (.d v.d :: as, ρ2)) = R.ok (as, ρ') := h
        cases hb : evs cl b ρ1 with
        | ok r =>
          obtain ⟨bs, ρ2⟩ := r
          rw [hb] at h
          cases h
          show bs.length + 1 = cnt b + 1
          rw [ihb hb]
        | exc z e => rw [hb] at h; cases h
        | bad => rw [hb] at h; cases h
  | _ => intro ρ ρ' as h; cases h
end
/-- how a def binds keywords alone -/
def KwOk (K : PySem.W.Frag) (fd : FuncData) (ps ks : List Str) (perm : List Nat) : Prop := ∀ (s : Shared) (ws : List Value), K.In s.heap → ws.length = ks.length → BindsTo s fd ⟨[], ks.zip ws⟩ (ps.zip (permL perm ws))
end Iv
end

section
set_option Elab.async false
set_option linter.all false
set_option maxRecDepth 100000
set_option maxHeartbeats 2000000
/-! enumerate over a tuple -/
namespace IvEnum
open PySem PySem.Spec PyProof.Rows L2 AutoSeq1
open Sem (wp)
theorem made (l : Addr) (items : Array Value) (k : Nat) (dc : Option Addr) (sl : Array (Option Value)) : Meets (Builtin.«enumerate.__new__» ⟨[.type "enumerate", .ref l], []⟩) (fun _ R s => s.heap.get? l = some { cls := .type "tuple", dict := dc, data := .seq items k, slots := sl } ∧
    R (.ok (.ret (.ref (s.heap.push { cls := .type "tuple_iterator", data := .fields #[.ref l, .int 0 0] }).objs.size)))
      { s with heap := (s.heap.push { cls := .type "tuple_iterator", data := .fields #[.ref l, .int 0 0] }).push { cls := .type "enumerate", data := .fields #[.none, .bool false, .ref s.heap.objs.size, rawInt 0, .none, .none] } }) := .of_wp fun prog w A R s h => by
  obtain ⟨hp, gs, dr, tk, os⟩ := s
  obtain ⟨hl, h⟩ := h
  have hsub := PySem.sub_enumerate
  have hT : Heap.IsTuple (Shared.heap ⟨hp, gs, dr, tk, os⟩) l items := ⟨_, hl, rfl, k, rfl⟩
  wp_walk using wpAny_loadPart' hl
  refine wpAny_stack_any fun _ => wpAny_pure ?_
  split
  · rename_i z _ _ _ _ _
    cases (z == Value.type "enumerate") <;> (wp_walk using wpAny_loadPart' hl, wpAny_pyIter_tuple hT; exact ⟨_, rfl, h⟩)
  · wp_walk using wpAny_loadPart' hl, wpAny_pyIter_tuple hT
    exact ⟨_, rfl, h⟩
section
variable {prog : Program} {w : World} {A : Around} {E : Value → Shared → Prop} {s : Shared}
theorem begun {l : Addr} {items : Array Value} {Q : Value → Shared → Prop} (hT : s.heap.IsTuple l items)
    (h : ∀ g, IsEnum g (s.heap.objs.size + 1) s.heap.objs.size 0 .none → g.IsTupleIter s.heap.objs.size l 0 → (∀ b o, s.heap.get? b = some o → g.get? b = some o) → Q (.ref (s.heap.objs.size + 1)) { s with heap := g }) :
    wpAny (model prog w) A (call (.type "enumerate") [.ref l]) Q E s := by
  obtain ⟨⟨z, dc, dt, sl⟩, hl, hz, k, hd⟩ := hT
  have hz : z = .type "tuple" := hz
  have hd : dt = .seq items k := hd
  subst hz
  subst hd
  refine callType_new F.called_enumerate (by decide) (F.typeCall_enumerate_1 _) (F.newCall_enumerate_1 _) (fun obj => F.args_object_init_2 obj _) F.entry_enumerate_new (made l items k dc sl) ⟨hl, ?_⟩
  have n1 : (s.heap.push { cls := .type "tuple_iterator", data := .fields #[.ref l, .int 0 0] }).objs.size = s.heap.objs.size + 1 := Heap.size_push ..
  show _ ∧ _
  rw [n1]
  have he : IsEnum ((s.heap.push { cls := .type "tuple_iterator", data := .fields #[.ref l, .int 0 0] }).push
      { cls := .type "enumerate", data := .fields #[.none, .bool false, .ref s.heap.objs.size, rawInt 0, .none, .none] }) (s.heap.objs.size + 1) s.heap.objs.size 0 .none := by
    have q := Heap.get?_push_size (s.heap.push { cls := .type "tuple_iterator", data := .fields #[.ref l, .int 0 0] }) (o := { cls := .type "enumerate", data := .fields #[.none, .bool false, .ref s.heap.objs.size, rawInt 0, .none, .none] }) rfl
    rw [n1] at q
    exact q
  exact ⟨⟨_, he, rfl⟩, h _ he ⟨_, Heap.get?_push_of_some _ (Heap.get?_push_size _ rfl), rfl, rfl⟩ fun b o z => Heap.get?_push_of_some _ (Heap.get?_push_of_some _ z)⟩
end
/-- the tuple at a, each item in a new pair with its place -/
def IteT (K : PySem.W.Frag) (a : Addr) : It :=
  ⟨fun i H => ∃ (ys : List V) (y : V), SqT K H a ys ∧ ys[i]? = some y, fun i H v H' => ∃ T y, v = .ref T ∧ H T = none ∧ H' = upd H T (.tup [.int (i : Nat), y]) ∧ ∀ ys, SqT K H a ys → ys[i]? = some y, fun i H => ∃ ys : List V, SqT K H a ys ∧ ys.length = i⟩
theorem turn {P : Program} {w : World} {K : PySem.W.Frag} {elts : List Expr} {kk : Nat} {tpos : Pos} (a e it : Addr) :
    Turn P w K (.Tuple elts kk tpos) (IteT K a) [e, it] e (fun i h => (∃ old, IsEnum h e it ((i : Nat) : Int) old) ∧ h.IsTupleIter it a i ∧ e ≠ it ∧ a ≠ it ∧ e ≠ a) where
  mem := by simp
  obj := fun i h st b hb => by
    obtain ⟨⟨old, he⟩, ⟨o, ho, _, hd⟩, _⟩ := st
    rcases (by simpa using hb : b = e ∨ b = it) with z | z
    · subst z; exact ⟨_, he, fun v q => nomatch q⟩
    · subst z; exact ⟨o, ho, fun v q => by rw [hd] at q; cases q⟩
  keep := fun i h h' st k => let ⟨⟨old, he⟩, hi, hne⟩ := st; ⟨⟨old, k e (by simp) _ he⟩, hi.at fun o q => k it (by simp) o q, hne⟩
  item := by
    intro X hP hw hK hc i pins s σ H E I hf st hg
    subst hP hw hK
    obtain ⟨⟨old, he⟩, hit, hne, hai, hea⟩ := st
    obtain ⟨ys, y, hq, hy⟩ := hg
    obtain ⟨its, rv, pt, hz⟩ := I.tuple hq
    obtain ⟨u, hu, ru⟩ := rv.get hy
    have hel : e < s.heap.objs.size := Heap.lt_size he
    have hil : it < s.heap.objs.size := by obtain ⟨_, q, _⟩ := hit; exact Heap.lt_size q
    have hlt : i < its.toArray.size := by
      have q := (List.getElem?_eq_some_iff.mp hu).1
      simpa using q
    have D := Draws.tuple (prog := X.prog) (w := X.w) (A := X.A.in1) (I.ok.hd hc) it a hai its.toArray
    refine wpAny_pyNext_enum_itemD D he ⟨hit, pt⟩ hlt hne (by simp [hne, hea]) fun u' g tk hu' ho st' hT hsz hk => ?_
    have eu : u' = u := by
      have q1 : its[i]? = some u' := by simpa using hu'
      rw [hu] at q1
      exact (Option.some.inj q1).symm
    subst eu
    refine ⟨_, rfl, wpAny_letOwnedTupleGo_enum (s := { s with heap := g, toks := tk + 1 }) ho fun g' he' sb => ?_⟩
    have hT2 : g'.get? s.heap.objs.size = some { cls := .type "tuple", data := .seq #[.int i tk, u'] } := (sb.2 _ (Nat.ne_of_gt hel)).trans hT
    have new : ObjOk X.prog X.w (upd H s.heap.objs.size (.tup [.int (i : Nat), y])) g' s.heap.objs.size (.tup [.int (i : Nat), y]) :=
      ⟨by show 2 ≤ sizeLine; decide, [.int i tk, u'], .cons ⟨_, rfl⟩ (.cons ru .nil), ⟨_, hT2, rfl, _, rfl⟩⟩
    have I1 : Inv X pins σ (upd H s.heap.objs.size (.tup [.int (i : Nat), y])) { s with heap := g', toks := tk + 1 } :=
      I.turnedNew (ch := [e, it]) (fun b ob hb q => (sb.2 b (fun z => hb (by simp [z]))).trans (hk b ob (fun z => hb (by simp [z])) (fun z => hb (by simp [z])) q)) hf (Nat.le_refl _) new
    refine ⟨.ref s.heap.objs.size, _, I1, rfl, ⟨_, y, rfl, I.hok.fresh (Nat.le_refl _), rfl, fun zs hzs => by rw [I.tuple_inj hzs hq]; exact hy⟩, ⟨⟨u', ?_⟩, st'.1.at fun o q => (sb.2 it (Ne.symm hne)).trans q, hne, hai, hea⟩, fun b hb => ?_⟩
    · have e1 : ((i + 1 : Nat) : Int) = (i : Int) + 1 := by omega
      rw [e1]
      exact he'
    · have hb' : b < s.heap.objs.size := by
        rcases (by simpa using hb : b = e ∨ b = it) with z | z
        · subst z; exact hel
        · subst z; exact hil
      rw [upd_ne (Nat.ne_of_lt hb')]
      exact (hf b hb).1
  done := by
    intro X hP hw hK hc i pins s σ H E I hf st hg
    subst hP hw hK
    obtain ⟨⟨old, he⟩, hit, hne, hai, hea⟩ := st
    obtain ⟨ys, hq, hl⟩ := hg
    obtain ⟨its, rv, pt, hz⟩ := I.tuple hq
    obtain ⟨f0, f1, f2, f3, f4, f5⟩ := hf it (by simp)
    have D := Draws.tuple (prog := X.prog) (w := X.w) (A := X.A.in1) (I.ok.hd hc) it a hai its.toArray
    have en : i = its.toArray.size := by rw [← hl, List.size_toArray]; exact rv.length
    exact wpAny_pyNext_enum_endD D he ⟨by rw [← en]; exact hit, pt⟩ fun g eb => ⟨rfl, I.turned (t' := s.toks) (fun b o hb q => eb b o hb q) f0 f1 f3 f4 f5⟩
  self := fun A i s Q E st h => let ⟨⟨_, he⟩, _⟩ := st; wpAny_pyIter_enum he h
def iEnumT (K : PySem.W.Frag) (ta : TA) : TI := fun σ H R => ta σ H fun vs H1 => ∃ a ys, vs = [.ref a] ∧ SqT K H1 a ys ∧ R (IteT K a) H1
theorem pi_enumT {X : Cx} {e : Expr} {ta : TA} {p pos tpos : Pos} {elts : List Expr} {kk : Nat} (hg : Gl X "enumerate") (hm : X.mg "enumerate" = none) (ha : PA X [e] ta) (hs : starEach [e] X.env = [(false, eval e X.env)]) :
    PI X (.Tuple elts kk tpos) (.Call (.Name "enumerate" p) [e] [] pos) (iEnumT X.K ta) := by
  refine ⟨fun pins s σ H R I h => ?_⟩
  refine Call_ (ld_blt I hg hm boot_enumerate (PyProof.Rows.callWith_type1 (thn (ha.run pos pins s σ H _ I h) fun us s1 ⟨vs, H1, I1, r1, q1⟩ => ?_) hs rfl))
  obtain ⟨a, ys, ex, hq, q⟩ := q1
  subst ex
  cases r1 with
  | cons r rr =>
    cases rr
    cases r
    obtain ⟨its, rv, pt, hz⟩ := I1.tuple hq
    have hal : a < s1.heap.objs.size := by obtain ⟨o, z, _⟩ := pt; exact Heap.lt_size z
    refine begun pt fun g he hit hk => wpAny_pyIter_enum he ?_
    have I2 : Inv X pins σ H1 { s1 with heap := g } := I1.kept (t' := s1.toks) hk
    refine ⟨s1.heap.objs.size + 1, [s1.heap.objs.size + 1, s1.heap.objs.size], _, _, H1, rfl, I2, turn a (s1.heap.objs.size + 1) s1.heap.objs.size, ⟨⟨.none, he⟩, hit, Nat.succ_ne_self _, Nat.ne_of_lt hal, Nat.ne_of_gt (Nat.lt_succ_of_lt hal)⟩, fun b hb => ?_, q⟩
    have hle : s1.heap.objs.size ≤ b := by
      rcases (by simpa using hb : b = s1.heap.objs.size + 1 ∨ b = s1.heap.objs.size) with z | z
      · rw [z]; exact Nat.le_add_right _ _
      · rw [z]; exact Nat.le_refl _
    exact I1.fpOk hle (I1.hok.fresh hle)
theorem walk_enumT {K : PySem.W.Frag} {a : Addr} {xs : List V} : Walk (IteT K a) xs.length (fun H => SqT K H a xs) (YPair (fun i => some (.int (i : Nat))) (fun i => xs[i]?)) := by
  refine ⟨fun i _ hi q => ⟨xs, xs[i], q, by simp [hi]⟩, fun _ q => ⟨xs, q, rfl⟩, fun i H v H' _ q y => ?_⟩
  obtain ⟨T, x, h1, h2, h3, h4⟩ := y
  exact ⟨T, .int (i : Nat), x, h1, h2, h3, rfl, h4 xs q⟩
end IvEnum
end

section
set_option Elab.async false
set_option linter.all false
set_option maxRecDepth 100000
set_option maxHeartbeats 2000000
namespace Iv
open PySem L2

/-! ### what is walked -/
def WI (X : Cx) (tg iter : Expr) : TI := fun σ H R => ∀ (pins : List (Addr × Obj)) (s : Shared), Inv X pins σ H s →
  wpAny (model X.prog X.w) X.A (eval iter X.env) (fun v s1 => wpAny (model X.prog X.w) X.A (pyIter v) (PIE X pins σ tg R) X.xe s1) X.xe s
theorem pi_wi {X : Cx} {tg iter : Expr} : PI X tg iter (WI X tg iter) := ⟨fun pins s σ H R I h => h pins s I⟩
theorem wi_of {X : Cx} {tg iter : Expr} {wi : TI} {σ : St} {H : Hp} {R : It → Hp → Prop} (h : PI X tg iter wi) (q : wi σ H R) : WI X tg iter σ H R := fun pins s I => h.run pins s σ H R I q
/-- a pair that is only taken apart -/
def isTupE : Expr → Bool
  | .Tuple _ _ _ => true
  | _ => false
def Wk (K : PySem.W.Frag) (G : Hp) (v : V) (d : PyData) : Prop := ∃ T u1 u2 d1 d2, v = .ref T ∧ SqT K G T [u1, u2] ∧ d = .tuple [d1, d2] ∧ Dq K G u1 d1 ∧ Dq K G u2 d2
def Dy (K : PySem.W.Frag) (G : Hp) (tg : Expr) (v : V) (d : PyData) : Prop := Dq K G v d ∨ (isTupE tg = true ∧ Wk K G v d)
/-- the i-th of the items comes, or a new pair that is it -/
def YD (K : PySem.W.Frag) (G : Hp) (tg : Expr) (items : List PyData) : Nat → Hp → V → Hp → Prop := fun i H0 x H1 => ∃ d, items[i]? = some d ∧ ((H1 = H0 ∧ Dq K G x d) ∨
  (isTupE tg = true ∧ ∃ T u1 u2 d1 d2, x = .ref T ∧ H0 T = none ∧ H1 = upd H0 T (.tup [u1, u2]) ∧ d = .tuple [d1, d2] ∧ Dq K G u1 d1 ∧ Dq K G u2 d2))
def DW (K : PySem.W.Frag) (G : Hp) (tg : Expr) (J : It) (items : List PyData) : Prop := Walk J items.length (fun H' => Ext G H') (YD K G tg items)
section
variable {K : PySem.W.Frag} {G : Hp} {tg : Expr} {a b : Addr} {vs us : List V} {ds es : List PyData}
theorem sqL_ext {H H' : Hp} {xs : List V} (e : Ext H H') (h : H a = some (.lst xs)) : SqL K H' a xs := SqL.of (e _ _ h)
theorem dw_list (h : G a = some (.lst vs)) (D : DqA K G vs ds) : DW K G tg (Itl K a) ds := by
  unfold DW
  rw [← D.length]
  refine walk_list.mono (fun H' e => sqL_ext e h) fun i H x H' hi _ y => ?_
  obtain ⟨e1, e2⟩ := y
  obtain ⟨d, e3, q⟩ := D.getV e2
  exact ⟨d, e3, .inl ⟨e1, q⟩⟩
theorem dw_tup (h : SqT K G a vs) (D : DqA K G vs ds) : DW K G tg (Itt K a) ds := by
  unfold DW
  rw [← D.length]
  refine walk_tup.mono (fun H' e => sqT_ext e h) fun i H x H' hi _ y => ?_
  obtain ⟨e1, e2⟩ := y
  obtain ⟨d, e3, q⟩ := D.getV e2
  exact ⟨d, e3, .inl ⟨e1, q⟩⟩
theorem dw_keys {o : Obj} {kvs : List (Key × V)} (h : G a = some (.frz o (.dK kvs))) : DW K G tg (Itk a o kvs) (kvs.map fun kv => keyD kv.1) := by
  unfold DW
  rw [List.length_map]
  refine ⟨fun i H' hi e => ⟨e _ _ h, hi⟩, fun H' e => ⟨e _ _ h, Nat.le_refl _⟩, fun i H' v H'' hi e y => ?_⟩
  obtain ⟨e1, k, w, e2, e3⟩ := y
  refine ⟨keyD k, by rw [List.getElem?_map, e2]; rfl, .inl ⟨e1, ?_⟩⟩
  subst e3
  cases k with
  | inl i => exact .int i
  | inr x => exact .str x
theorem dct_inv {v : V} {x : PyData} {ks vs : List PyData} (h : Dq K G v x) (e : dctOf x = some (ks, vs)) : ∃ (p : Addr) (o : Obj) (kvs : List (Key × V)), v = .ref p ∧ G p = some (.frz o (.dK kvs)) ∧ ks = kvs.map (fun kv => keyD kv.1) ∧ DqA K G (kvs.map (·.2)) vs := by
  unfold dctOf at e
  split at e
  · cases e
    cases h with
    | dct h1 h2 h3 => exact ⟨_, _, _, rfl, h1, h2, h3⟩
  · cases e
theorem intsD_len : ∀ (n : Nat) (lo : Int), (intsD lo n).length = n
  | 0, _ => rfl
  | n + 1, lo => by simp [intsD, intsD_len n]
theorem intsD_get : ∀ (n : Nat) (lo : Int) (i : Nat), i < n → (intsD lo n)[i]? = some (.int (lo + i))
  | 0, _, _, h => by omega
  | n + 1, lo, 0, _ => by simp [intsD]
  | n + 1, lo, i + 1, h => by
    simp only [intsD, List.getElem?_cons_succ]
    rw [intsD_get n (lo + 1) i (by omega)]
    congr 2
    omega
theorem dw_range {lo : Int} {n : Nat} : DW K G tg (Itr lo n) (intsD lo n) := by
  unfold DW
  rw [intsD_len]
  refine walk_range.mono (fun _ _ => trivial) fun i H x H' hi _ y => ?_
  obtain ⟨e1, e2⟩ := y
  exact ⟨_, intsD_get n lo i hi, .inl ⟨e1, by rw [e2]; exact .int _⟩⟩
theorem downD_len : ∀ (n : Nat) (hi : Int), (downD hi n).length = n
  | 0, _ => rfl
  | n + 1, hi => by simp [downD, downD_len n]
theorem downD_get : ∀ (n : Nat) (hi : Int) (i : Nat), i < n → (downD hi n)[i]? = some (.int (hi + (i : Nat) * (-1)))
  | 0, _, _, h => by omega
  | n + 1, hi, 0, _ => by simp [downD]
  | n + 1, hi, i + 1, h => by
    simp only [downD, List.getElem?_cons_succ]
    rw [downD_get n (hi - 1) i (by omega)]
    congr 2
    omega
theorem dw_down {hi : Int} {n : Nat} : DW K G tg (Itc hi (-1) n) (downD hi n) := by
  unfold DW
  rw [downD_len]
  refine walk_rangeC.mono (fun _ _ => trivial) fun i H x H' hi' _ y => ?_
  obtain ⟨e1, e2⟩ := y
  exact ⟨_, downD_get n hi i hi', .inl ⟨e1, by rw [e2]; exact .int _⟩⟩
theorem enumD_len : ∀ (ds : List PyData) (i : Int), (enumD i ds).length = ds.length
  | [], _ => rfl
  | d :: ds, i => by simp [enumD, enumD_len ds]
theorem enumD_get : ∀ (ds : List PyData) (k : Int) (i : Nat) (d : PyData), ds[i]? = some d → (enumD k ds)[i]? = some (.tuple [.int (k + i), d])
  | [], _, _, _, h => by simp at h
  | x :: ds, k, 0, d, h => by
    have e : x = d := by simpa using h
    subst e
    simp [enumD]
  | x :: ds, k, i + 1, d, h => by
    simp only [enumD, List.getElem?_cons_succ]
    rw [enumD_get ds (k + 1) i d (by simpa using h)]
    congr 4
    omega
theorem dw_enumL (ht : isTupE tg = true) (h : G a = some (.lst vs)) (D : DqA K G vs ds) : DW K G tg (Ite K a) (enumD 0 ds) := by
  unfold DW
  rw [enumD_len, ← D.length]
  refine walk_enum.mono (fun H' e => sqL_ext e h) fun i H x H' hi _ y => ?_
  obtain ⟨T, u1, u2, e1, e2, e3, e4, e5⟩ := y
  obtain ⟨d, e6, q⟩ := D.getV e5
  cases e4
  exact ⟨_, enumD_get ds 0 i d e6, .inr ⟨ht, T, _, u2, _, d, e1, e2, e3, rfl, by simpa using Dq.int _, q⟩⟩
theorem dw_enumT (ht : isTupE tg = true) (h : SqT K G a vs) (D : DqA K G vs ds) : DW K G tg (IvEnum.IteT K a) (enumD 0 ds) := by
  unfold DW
  rw [enumD_len, ← D.length]
  refine IvEnum.walk_enumT.mono (fun H' e => sqT_ext e h) fun i H x H' hi _ y => ?_
  obtain ⟨T, u1, u2, e1, e2, e3, e4, e5⟩ := y
  obtain ⟨d, e6, q⟩ := D.getV e5
  cases e4
  exact ⟨_, enumD_get ds 0 i d e6, .inr ⟨ht, T, _, u2, _, d, e1, e2, e3, rfl, by simpa using Dq.int _, q⟩⟩
theorem zipD_len : ∀ (ds es : List PyData), (zipD ds es).length = min ds.length es.length
  | [], [] => rfl
  | [], _ :: _ => by simp [zipD]
  | _ :: _, [] => by simp [zipD]
  | d :: ds, e :: es => by simp [zipD, zipD_len ds es]
theorem zipD_get : ∀ (ds es : List PyData) (i : Nat) (d e : PyData), ds[i]? = some d → es[i]? = some e → (zipD ds es)[i]? = some (.tuple [d, e])
  | [], _, _, _, _, h, _ => by simp at h
  | _ :: _, [], _, _, _, _, h => by simp at h
  | x :: ds, y :: es, 0, d, e, h, h' => by
    have z : x = d := by simpa using h
    have z' : y = e := by simpa using h'
    subst z; subst z'
    simp [zipD]
  | x :: ds, y :: es, i + 1, d, e, h, h' => by
    simp only [zipD, List.getElem?_cons_succ]
    exact zipD_get ds es i d e (by simpa using h) (by simpa using h')
theorem dw_zipL (ht : isTupE tg = true) (h : G a = some (.lst vs)) (D : DqA K G vs ds) (h' : G b = some (.lst us)) (D' : DqA K G us es) : DW K G tg (Itz K a b) (zipD ds es) := by
  unfold DW
  rw [zipD_len, ← D.length, ← D'.length]
  refine (walk_zip rfl).mono (fun H' e => ⟨sqL_ext e h, sqL_ext e h'⟩) fun i H x H' hi _ y => ?_
  obtain ⟨T, u1, u2, e1, e2, e3, e4, e5⟩ := y
  obtain ⟨d, e6, q⟩ := D.getV e4
  obtain ⟨d', e7, q'⟩ := D'.getV e5
  exact ⟨_, zipD_get ds es i d d' e6 e7, .inr ⟨ht, T, u1, u2, d, d', e1, e2, e3, rfl, q, q'⟩⟩
theorem walk_zipT {xs ys : List V} {n : Nat} (hn : n = min xs.length ys.length) : Walk (RZ.ItzT K a b) n (fun H => SqT K H a xs ∧ SqT K H b ys) (YPair (fun i => xs[i]?) (fun i => ys[i]?)) := by
  subst hn
  refine ⟨fun i _ hi q => ?_, fun _ q => ⟨xs, ys, q.1, q.2, by omega⟩, fun i H v H' _ q y => ?_⟩
  · have h1 : i < xs.length := by omega
    have h2 : i < ys.length := by omega
    exact ⟨xs, ys, xs[i], ys[i], q.1, q.2, by simp [h1], by simp [h2]⟩
  · obtain ⟨T, x, z, h1, h2, h3, h4, h5⟩ := y
    exact ⟨T, x, z, h1, h2, h3, h4 xs q.1, h5 ys q.2⟩
theorem dw_zipT (ht : isTupE tg = true) (h : SqT K G a vs) (D : DqA K G vs ds) (h' : SqT K G b us) (D' : DqA K G us es) : DW K G tg (RZ.ItzT K a b) (zipD ds es) := by
  unfold DW
  rw [zipD_len, ← D.length, ← D'.length]
  refine (walk_zipT rfl).mono (fun H' e => ⟨sqT_ext e h, sqT_ext e h'⟩) fun i H x H' hi _ y => ?_
  obtain ⟨T, u1, u2, e1, e2, e3, e4, e5⟩ := y
  obtain ⟨d, e6, q⟩ := D.getV e4
  obtain ⟨d', e7, q'⟩ := D'.getV e5
  exact ⟨_, zipD_get ds es i d d' e6 e7, .inr ⟨ht, T, u1, u2, d, d', e1, e2, e3, rfl, q, q'⟩⟩
end
/-- a source -/
def GI (K : PySem.W.Frag) (tg : Expr) : List PyData → It → Hd → Hp → En → Prop := fun items J S' H' _ => DW K (hid S' H') tg J items
def SI (c : Cc) (X : Cx) (k : Src) (tg iter : Expr) (src : E) : Prop := ∀ ρ S σ H R, Dm S H → EnOk X.K S H σ ρ →
  PostG c X.K σ ρ S H (GI X.K tg) R (bnd (evs c.cl src ρ) fun as ρ1 => ofO ρ1 ((argsD as).bind (srcD k))) → WI X tg iter σ H R
section
variable {c : Cc} {X : Cx} {σ : St} {ρ : En} {S : Hd} {H : Hp} {e a b tg : Expr} {x y : E} {pos p : Pos}
theorem src_bnd {k : Src} {q0 : It → Hp → Prop} {Q : List V → Hp → Prop} {r : R En (List Arg × En)} {K : PySem.W.Frag} (hp : PostG c K σ ρ S H (GI K tg) q0 (bnd r fun as ρ1 => ofO ρ1 ((argsD as).bind (srcD k))))
    (q : ∀ ds items vs S1 H1, srcD k ds = some items → DqA K (hid S1 H1) vs ds → (∀ J, DW K (hid S1 H1) tg J items → q0 J H1) → Q vs H1) : PostG c K σ ρ S H (GA K σ) Q r := by
  refine post_bnd hp fun as ρ1 h1 vs S1 H1 f1 en1 s1 g1 => ?_
  cases ha : argsD as with
  | none => rw [ha] at h1; exact h1.elim
  | some ds =>
    rw [ha] at h1
    have D := args_data g1 ha
    have h1 : PostG c K σ ρ S H (GI K tg) q0 (ofO ρ1 (srcD k ds)) := h1
    cases hi : srcD k ds with
    | none => rw [hi] at h1; exact h1.elim
    | some items =>
      rw [hi] at h1
      exact q ds items vs S1 H1 hi D fun J w => h1 J S1 H1 f1 en1 s1 w
theorem si_seq (h : SX c X e x) (hx : isRef x = false) : SI c X .seq tg e (.cons x .nil) := by
  intro ρ S σ H R hd en hp
  -- the source as a one-item argument list
  have eq1 : evs c.cl (.cons x .nil) ρ = (ev c.cl x ρ).map fun q => ([Arg.d q.1.d], q.2) := by
    rw [evs_cons hx]
    cases ev c.cl x ρ <;> rfl
  rw [eq1] at hp
  -- list or tuple?
  cases hr : ev c.cl x ρ with
  | bad => rw [hr] at hp; exact hp.elim
  | exc z ρ' =>
    rw [hr] at hp
    exact wi_of (pi_list pe_we) (h.se.sd ρ S σ H _ hd en (by rw [hr]; exact hp))
  | ok r =>
    obtain ⟨val, ρ'⟩ := r
    rw [hr] at hp
    have hp : PostG c X.K σ ρ S H (GI X.K tg) R (ofO ρ' (walkOf val.d)) := hp
    cases hk : dctOf val.d with
    | some kv =>
      obtain ⟨ks, vs⟩ := kv
      unfold walkOf at hp
      rw [hk] at hp
      refine wi_of (pi_keys pe_we) (h.se.sd ρ S σ H _ hd en ?_)
      rw [hr]
      intro v S' H' f en' sb g
      obtain ⟨p, o, kvs, rfl, h1, rfl, h3⟩ := dct_inv (show Dq X.K (hid S' H') v val.d from g) hk
      exact ⟨p, o, rfl, .inl ⟨kvs, (hid_of h1).2, hp _ S' H' f en' sb (dw_keys h1)⟩⟩
    | none =>
    unfold walkOf at hp
    rw [hk] at hp
    have hp : PostG c X.K σ ρ S H (GI X.K tg) R (ofO ρ' (seqOf val.d)) := hp
    cases hv : val.d with
    | list ds =>
      rw [hv] at hp
      refine wi_of (pi_list pe_we) (h.se.sd ρ S σ H _ hd en ?_)
      rw [hr]
      intro v S' H' f en' sb g
      have g : Dq X.K (hid S' H') v val.d := g
      rw [hv] at g
      cases g with
      | lst h1 h2 => exact ⟨_, rfl, ⟨_, sqL_ext hid_ext h1⟩, hp _ S' H' f en' sb (dw_list h1 h2)⟩
    | tuple ds =>
      rw [hv] at hp
      refine wi_of (pi_tup pe_we) (h.se.sd ρ S σ H _ hd en ?_)
      rw [hr]
      intro v S' H' f en' sb g
      have g : Dq X.K (hid S' H') v val.d := g
      rw [hv] at g
      cases g with
      | tup h1 h2 => exact ⟨_, rfl, ⟨_, sqT_ext hid_ext h1.t⟩, hp _ S' H' f en' sb (dw_tup h1.t h2)⟩
    | _ => rw [hv] at hp; exact hp.elim
theorem si_rng1 (hg : Gl X "range") (hm : X.mg "range" = none) (h : SA c X [a] x) (hs : starEach [a] X.env = [(false, eval a X.env)]) : SI c X .rng1 tg (.Call (.Name "range" p) [a] [] pos) x := by
  intro ρ S σ H R hd en hp
  refine wi_of (pi_range1 hg hm pa_wa hs) (h.go ρ S σ H _ hd en (src_bnd hp fun ds items vs S1 H1 e1 D q => ?_))
  unfold srcD at e1
  split at e1 <;> first | contradiction | skip
  · split at e1
    · cases e1
      cases D with
      | cons d1 d2 =>
        cases d2
        cases d1
        exact ⟨_, rfl, by omega, by omega, q _ dw_range⟩
    · cases e1
theorem si_rng2 (hg : Gl X "range") (hm : X.mg "range" = none) (h : SA c X [a, b] x) (hs : starEach [a, b] X.env = [(false, eval a X.env), (false, eval b X.env)]) (hs2 : starEach [b] X.env = [(false, eval b X.env)]) : SI c X .rng2 tg (.Call (.Name "range" p) [a, b] [] pos) x := by
  intro ρ S σ H R hd en hp
  refine wi_of (pi_range2 hg hm pa_wa hs hs2) (h.go ρ S σ H _ hd en (src_bnd hp fun ds items vs S1 H1 e1 D q => ?_))
  unfold srcD at e1
  split at e1 <;> first | contradiction | skip
  · split at e1
    · cases e1
      cases D with
      | cons d1 d2 =>
        cases d2 with
        | cons d3 d4 =>
          cases d4
          cases d1
          cases d3
          exact ⟨_, _, rfl, ⟨by omega, by omega, by omega, by omega⟩, q _ dw_range⟩
    · cases e1
theorem si_rng3 {d : Expr} (hg : Gl X "range") (hm : X.mg "range" = none) (h : SA c X [a, b, d] x) (hs : starEach [a, b, d] X.env = (false, eval a X.env) :: starEach [b, d] X.env) (hpl : (backTo pos (starEach [b, d] X.env)).any (·.1) = false) : SI c X .rng3 tg (.Call (.Name "range" p) [a, b, d] [] pos) x := by
  intro ρ S σ H R hd en hp
  refine wi_of (pi_range3 hg hm pa_wa hs hpl) (h.go ρ S σ H _ hd en (src_bnd hp fun ds items vs S1 H1 e1 D q => ?_))
  unfold srcD at e1
  split at e1 <;> first | contradiction | skip
  · split at e1
    · rename_i hb
      cases e1
      cases D with
      | cons d1 d2 =>
        cases d2 with
        | cons d3 d4 =>
          cases d4 with
          | cons d5 d6 =>
            cases d6
            cases d1
            cases d3
            cases d5
            obtain ⟨rfl, hb⟩ := hb
            exact ⟨_, _, _, _, rfl, RgC.neg (by omega) (by omega) (by omega) (by omega), q _ dw_down⟩
    · cases e1
theorem si_enum {elts : List Expr} {kk : Nat} {tpos : Pos} (hg : Gl X "enumerate") (hm : X.mg "enumerate" = none) (h : SX c X a x) (hx : isRef x = false) (hs : starEach [a] X.env = [(false, eval a X.env)]) : SI c X .enum (.Tuple elts kk tpos) (.Call (.Name "enumerate" p) [a] [] pos) (.cons x .nil) := by
  intro ρ S σ H R hd en hp
  have eq1 : evs c.cl (.cons x .nil) ρ = (ev c.cl x ρ).map fun q => ([Arg.d q.1.d], q.2) := by
    rw [evs_cons hx]
    cases ev c.cl x ρ <;> rfl
  rw [eq1] at hp
  cases hr : ev c.cl x ρ with
  | bad => rw [hr] at hp; exact hp.elim
  | exc z ρ' =>
    rw [hr] at hp
    exact wi_of (pi_enum hg hm (pa_cons pe_we pa_nil hs) hs) (h.se.sd ρ S σ H _ hd en (by rw [hr]; exact hp))
  | ok r =>
    obtain ⟨val, ρ'⟩ := r
    rw [hr] at hp
    have hp : PostG c X.K σ ρ S H (GI X.K (.Tuple elts kk tpos)) R (ofO ρ' ((seqOf val.d).map (enumD 0))) := hp
    cases hv : val.d with
    | list ds =>
      rw [hv] at hp
      refine wi_of (pi_enum hg hm (pa_cons pe_we pa_nil hs) hs) (h.se.sd ρ S σ H _ hd en ?_)
      rw [hr]
      intro v S' H' f en' sb g
      have g : Dq X.K (hid S' H') v val.d := g
      rw [hv] at g
      cases g with
      | lst h1 h2 => exact ⟨_, _, rfl, sqL_ext hid_ext h1, hp _ S' H' f en' sb (dw_enumL rfl h1 h2)⟩
    | tuple ds =>
      rw [hv] at hp
      refine wi_of (IvEnum.pi_enumT hg hm (pa_cons pe_we pa_nil hs) hs) (h.se.sd ρ S σ H _ hd en ?_)
      rw [hr]
      intro v S' H' f en' sb g
      have g : Dq X.K (hid S' H') v val.d := g
      rw [hv] at g
      cases g with
      | tup h1 h2 => exact ⟨_, _, rfl, sqT_ext hid_ext h1.t, hp _ S' H' f en' sb (dw_enumT rfl h1.t h2)⟩
    | _ => rw [hv] at hp; exact hp.elim
theorem si_zip {elts : List Expr} {kk : Nat} {tpos : Pos} (hg : Gl X "zip") (hm : X.mg "zip" = none) (h : SA c X [a, b] x) (hs : starEach [a, b] X.env = (false, eval a X.env) :: starEach [b] X.env) (hpl : (backTo pos (starEach [b] X.env)).any (·.1) = false) :
    SI c X .zip (.Tuple elts kk tpos) (.Call (.Name "zip" p) [a, b] [] pos) x := by
  intro ρ S σ H R hd en hp
  refine wi_of (RZ.pi_zipA hg hm pa_wa hs hpl) (h.go ρ S σ H _ hd en (src_bnd hp fun ds items vs S1 H1 e1 D q => ?_))
  unfold srcD at e1
  split at e1 <;> first | contradiction | skip
  · cases e1
    cases D with
    | cons d1 d2 =>
      cases d2 with
      | cons d3 d4 =>
        cases d4
        cases d1 with
        | lst h1 h2 =>
          cases d3 with
          | lst h3 h4 => exact ⟨_, _, _, _, rfl, .inl ⟨sqL_ext hid_ext h1, sqL_ext hid_ext h3, q _ (dw_zipL rfl h1 h2 h3 h4)⟩⟩
  · cases e1
    cases D with
    | cons d1 d2 =>
      cases d2 with
      | cons d3 d4 =>
        cases d4
        cases d1 with
        | tup h1 h2 =>
          cases d3 with
          | tup h3 h4 => exact ⟨_, _, _, _, rfl, .inr ⟨sqT_ext hid_ext h1.t, sqT_ext hid_ext h3.t, q _ (dw_zipT rfl h1.t h2 h3.t h4)⟩⟩
end
end Iv
end

section
set_option Elab.async false
set_option linter.all false
set_option maxRecDepth 100000
set_option maxHeartbeats 4000000
namespace Iv
open PySem L2

/-! ### targets -/
def WG (X : Cx) (tg : Expr) : TG := fun v σ H Q => ∀ (pins : List (Addr × Obj)) (s : Shared) (u : Value), Inv X pins σ H s → RelV v u → wpAny (model X.prog X.w) X.A (assign tg X.env u) (fun _ s' => ∃ σ' H', Inv X pins σ' H' s' ∧ Q σ' H') X.xe s
def WGs (X : Cx) (tgs : List Expr) : TGs := fun vs σ H Q => ∀ (pins : List (Addr × Obj)) (s : Shared) (us : List Value), Inv X pins σ H s → Vals vs us → wpAny (model X.prog X.w) X.A (assignInOrder ((assignEach tgs X.env).map (·.2)) us) (fun _ s' => ∃ σ' H', Inv X pins σ' H' s' ∧ Q σ' H') X.xe s
theorem pg_wg {X : Cx} {tg : Expr} : PG X tg (WG X tg) := ⟨fun pins s σ H v u Q I r h => h pins s u I r⟩
theorem pgs_wg {X : Cx} {tgs : List Expr} : PGs X tgs (WGs X tgs) := ⟨fun pins s σ H vs us Q I r h => h pins s us I r⟩
theorem wg_of {X : Cx} {tg : Expr} {t : TG} {v : V} {σ : St} {H : Hp} {Q : St → Hp → Prop} (h : PG X tg t) (q : t v σ H Q) : WG X tg v σ H Q := fun pins s u I r => h.run pins s σ H v u Q I r q
theorem wgs_of {X : Cx} {tgs : List Expr} {t : TGs} {vs : List V} {σ : St} {H : Hp} {Q : St → Hp → Prop} (h : PGs X tgs t) (q : t vs σ H Q) : WGs X tgs vs σ H Q := fun pins s us I r => h.run pins s σ H vs us Q I r q
/-- what stands in the other slots is as it was -/
def Ag (σ σ1 : St) (vs : List Nat) : Prop := σ1.length = σ.length ∧ ∀ j, j ∉ vs → σ1[j]? = σ[j]?
theorem Ag.trans {σ σ1 σ2 : St} {vs us : List Nat} (a : Ag σ σ1 vs) (b : Ag σ1 σ2 us) : Ag σ σ2 (vs ++ us) :=
  ⟨b.1.trans a.1, fun j hj => (b.2 j fun z => hj (List.mem_append_right _ z)).trans (a.2 j fun z => hj (List.mem_append_left _ z))⟩
theorem wipe_get (σ : St) : ∀ (vs : List Nat) (j : Nat), (wipe σ vs)[j]? = if j ∈ vs then σ[j]?.map (fun _ => none) else σ[j]?
  | [], j => by simp [wipe]
  | v :: vs, j => by
    unfold wipe
    by_cases e : v = j
    · subst e
      simp only [List.mem_cons, true_or, if_true]
      by_cases h : v < σ.length
      · rw [List.getElem?_set_self (by rw [wipe_length]; exact h), List.getElem?_eq_getElem h]; rfl
      · rw [List.getElem?_eq_none (by rw [List.length_set, wipe_length]; omega), List.getElem?_eq_none (by omega)]; rfl
    · rw [List.getElem?_set_ne e, wipe_get σ vs j]
      have : (j ∈ v :: vs) ↔ j ∈ vs := ⟨fun z => (List.mem_cons.mp z).resolve_left fun w => e w.symm, fun z => List.mem_cons_of_mem _ z⟩
      by_cases hm : j ∈ vs
      · rw [if_pos hm, if_pos (this.mpr hm)]
      · rw [if_neg hm, if_neg fun z => hm (this.mp z)]
theorem Ag.wipe {σ σ1 : St} {vs : List Nat} (a : Ag σ σ1 vs) : wipe σ1 vs = L2.wipe σ vs := by
  apply List.ext_getElem?
  intro j
  rw [wipe_get, wipe_get]
  by_cases h : j ∈ vs
  · rw [if_pos h, if_pos h]
    by_cases hl : j < σ.length
    · rw [List.getElem?_eq_getElem hl, List.getElem?_eq_getElem (by rw [a.1]; exact hl)]; rfl
    · rw [List.getElem?_eq_none (show σ1.length ≤ j by rw [a.1]; omega), List.getElem?_eq_none (show σ.length ≤ j by omega)]
  · rw [if_neg h, if_neg h, a.2 j h]
structure TgEnd (K : PySem.W.Frag) (S : Hd) (H : Hp) (σ : St) (ρ : En) (σ1 : St) (ρ1 : En) (vs : List Nat) : Prop where
  en : EnOk K S H σ1 ρ1
  own : ∀ p, Owns σ1 ρ1 p → Owns σ ρ p
  ag : Ag σ σ1 vs
def SG (X : Cx) (tg : Expr) (t : Tg) : Prop := ∀ σ ρ S H v d ρ1 (Q : St → Hp → Prop), EnOk X.K S H σ ρ → Dy X.K (hid S H) tg v d → tgGo t d ρ = some ρ1 → (∀ σ1, TgEnd X.K S H σ ρ σ1 ρ1 t.slots → Q σ1 H) → WG X tg v σ H Q
structure SGs (X : Cx) (tgs : List Expr) (t : Tg) : Prop where
  len : ∀ ds ρ ρ1, tgGo t (.tuple ds) ρ = some ρ1 → ds.length = tgs.length
  run : ∀ σ ρ S H vs ds ρ1 (Q : St → Hp → Prop), EnOk X.K S H σ ρ → DqA X.K (hid S H) vs ds → tgGo t (.tuple ds) ρ = some ρ1 → (∀ σ1, TgEnd X.K S H σ ρ σ1 ρ1 t.slots → Q σ1 H) → WGs X tgs vs σ H Q
/-- a name takes a value -/
theorem en_set {K : PySem.W.Frag} {S : Hd} {H : Hp} {σ : St} {ρ : En} {i : Nat} {v : V} {s : Slot} (en : EnOk K S H σ ρ) (hs : i < σ.length → SlotOk K S H (σ.set i (some v)) i s) (ho : ∀ p, isOwn s = true → v = .ref p → ¬ Owns σ ρ p) :
    EnOk K S H (σ.set i (some v)) (ρ.set i s) ∧ (∀ p, Owns (σ.set i (some v)) (ρ.set i s) p → Owns σ ρ p ∨ (isOwn s = true ∧ v = .ref p)) ∧ Ag σ (σ.set i (some v)) [i] := by
  have hl := en.len
  have each : ∀ (j : Nat) (s' : Slot), (ρ.set i s)[j]? = some s' → (j = i ∧ s' = s ∧ i < ρ.length) ∨ (j ≠ i ∧ ρ[j]? = some s') := fun j s' hj => by
    by_cases z : i = j
    · subst z
      by_cases h : i < ρ.length
      · rw [List.getElem?_set_self h] at hj
        exact .inl ⟨rfl, (Option.some.inj hj).symm, h⟩
      · rw [List.getElem?_eq_none (by rw [List.length_set]; omega)] at hj; cases hj
    · rw [List.getElem?_set_ne z] at hj
      exact .inr ⟨fun w => z w.symm, hj⟩
  have oth : ∀ (j : Nat) (s' : Slot), j ≠ i → SlotOk K S H σ j s' → SlotOk K S H (σ.set i (some v)) j s' := fun j s' nj h => by
    have e : (σ.set i (some v))[j]? = σ[j]? := List.getElem?_set_ne fun z => nj z.symm
    cases s' with
    | no => trivial
    | dat d => obtain ⟨u, e1, q⟩ := h; exact ⟨u, e.trans e1, q⟩
    | own d => obtain ⟨p, us, e1, q⟩ := h; exact ⟨p, us, e.trans e1, q⟩
    | lock d => obtain ⟨p, us, e1, q⟩ := h; exact ⟨p, us, e.trans e1, q⟩
  refine ⟨⟨by rw [List.length_set, List.length_set]; exact hl, fun j s' hj => ?_, fun j k sj sk p njk hj hk oj ok' ej ek => ?_⟩, fun p ⟨j, s', hj, oj, ej⟩ => ?_, List.length_set, fun j hj => List.getElem?_set_ne fun z => hj (by rw [z]; exact List.mem_cons_self)⟩
  · rcases each j s' hj with ⟨rfl, rfl, h⟩ | ⟨nj, h⟩
    · exact hs (by omega)
    · exact oth j s' nj (en.slot j s' h)
  · rcases each j sj hj with ⟨rfl, rfl, h⟩ | ⟨nj, h⟩
    · rcases each k sk hk with ⟨rfl, rfl, h'⟩ | ⟨nk, h'⟩
      · exact njk rfl
      · rw [List.getElem?_set_self (by omega)] at ej
        rw [List.getElem?_set_ne fun z => nk z.symm] at ek
        exact ho p oj (Option.some.inj (Option.some.inj ej)) ⟨k, sk, h', ok', ek⟩
    · rcases each k sk hk with ⟨rfl, rfl, h'⟩ | ⟨nk, h'⟩
      · rw [List.getElem?_set_self (by omega)] at ek
        rw [List.getElem?_set_ne fun z => nj z.symm] at ej
        exact ho p ok' (Option.some.inj (Option.some.inj ek)) ⟨j, sj, h, oj, ej⟩
      · rw [List.getElem?_set_ne fun z => nj z.symm] at ej
        rw [List.getElem?_set_ne fun z => nk z.symm] at ek
        exact en.apart j k sj sk p njk h h' oj ok' ej ek
  · rcases each j s' hj with ⟨rfl, rfl, h⟩ | ⟨nj, h⟩
    · rw [List.getElem?_set_self (by omega)] at ej
      exact .inr ⟨oj, Option.some.inj (Option.some.inj ej)⟩
    · rw [List.getElem?_set_ne fun z => nj z.symm] at ej
      exact .inl ⟨j, s', h, oj, ej⟩
section
variable {c : Cc} {X : Cx} {a : Expr} {as : List Expr} {t u : Tg} {pos : Pos}
theorem sg_name {i : Nat} {x : Str} (hN : X.N.Nodup) (hi : X.N[i]? = some x) (hx : Loc X.env.scope x) (hf : X.fn x = true ∨ X.env.scope.names.lookup x = some .local) : SG X (.Name x pos) (.name i) := by
  intro σ ρ S H v d ρ1 Q en hv e q
  have hv : Dq X.K (hid S H) v d := hv.elim id fun z => by cases z.1
  cases e
  obtain ⟨e1, e2, e3⟩ := en_set (i := i) (v := v) (s := .dat d) en (fun h => ⟨v, List.getElem?_set_self h, hv⟩) fun p z => by cases z
  exact wg_of (pg_name hN hi hx hf) (q _ ⟨e1, fun p z => (e2 p z).elim id (fun w => Bool.noConfusion w.1), e3⟩)
theorem sgs_one (h : SG X a t) (hs : (assignEach [a] X.env).map (·.2) = [assign a X.env]) : SGs X [a] (.cons t .nil) := by
  refine ⟨fun ds ρ ρ1 e => ?_, fun σ ρ S H vs ds ρ1 Q en hv e q => ?_⟩
  · cases ds with
    | nil => cases e
    | cons d r =>
      cases r with
      | nil => rfl
      | cons d' r =>
        have e : (tgGo t d ρ).bind (fun ρ1 => tgGo .nil (.tuple (d' :: r)) ρ1) = some ρ1 := e
        cases hr : tgGo t d ρ with
        | none => rw [hr] at e; cases e
        | some z => rw [hr] at e; cases e
  · cases hv with
    | nil => cases e
    | cons h1 h2 =>
      cases h2 with
      | nil =>
        have e : tgGo t _ ρ = some ρ1 := e
        refine wgs_of (pgs_cons pg_wg pgs_nil hs) ⟨_, [], rfl, h σ ρ S H _ _ ρ1 _ en (.inl h1) e fun σ1 z => ⟨rfl, q σ1 ⟨z.en, z.own, ?_⟩⟩⟩
        have w := z.ag
        exact ⟨w.1, fun j hj => w.2 j fun m => hj (by simpa [Tg.slots] using m)⟩
      | cons h3 h4 =>
        rename_i d1 _ _ d2 ds2
        have e : (tgGo t d1 ρ).bind (fun ρ1 => tgGo .nil (.tuple (d2 :: ds2)) ρ1) = some ρ1 := e
        cases hr : tgGo t d1 ρ with
        | none => rw [hr] at e; cases e
        | some z => rw [hr] at e; cases e
theorem tg_cons {d : PyData} {r : List PyData} {ρ : En} (hu : u ≠ .nil) : tgGo (.cons t u) (.tuple (d :: r)) ρ = (tgGo t d ρ).bind fun ρ1 => tgGo u (.tuple r) ρ1 := by
  cases u with
  | nil => exact absurd rfl hu
  | name i => cases r <;> rfl
  | cons a b => cases r <;> rfl
theorem sgs_cons (h : SG X a t) (hr : SGs X as u) (hu : u ≠ .nil) (hs : (assignEach (a :: as) X.env).map (·.2) = assign a X.env :: (assignEach as X.env).map (·.2)) : SGs X (a :: as) (.cons t u) := by
  refine ⟨fun ds ρ ρ1 e => ?_, fun σ ρ S H vs ds ρ1 Q en hv e q => ?_⟩
  · cases ds with
    | nil => cases u <;> cases e
    | cons d r =>
      rw [tg_cons hu] at e
      cases hz : tgGo t d ρ with
      | none => rw [hz] at e; cases e
      | some z =>
        rw [hz] at e
        have := hr.len r z ρ1 e
        simp [this]
  · cases hv with
    | nil => cases u <;> cases e
    | cons h1 h2 =>
      rw [tg_cons hu] at e
      rename_i v1 vs1 d1 ds1
      cases hz : tgGo t d1 ρ with
      | none => rw [hz] at e; cases e
      | some ρ2 =>
        rw [hz] at e
        refine wgs_of (pgs_cons pg_wg pgs_wg hs) ⟨_, _, rfl, h σ ρ S H _ _ ρ2 _ en (.inl h1) hz fun σ1 z => ?_⟩
        exact hr.run σ1 ρ2 S H _ _ ρ1 Q z.en h2 e fun σ2 z2 => q σ2 ⟨z2.en, fun p w => z.own p (z2.own p w), z.ag.trans z2.ag⟩
theorem tg_list {t : Tg} (ht : ∀ i, t ≠ .name i) {xs : List PyData} {ρ : En} : tgGo t (.list xs) ρ = tgGo t (.tuple xs) ρ := by
  cases t with
  | name i => exact absurd rfl (ht i)
  | nil => rfl
  | cons a b =>
    cases xs with
    | nil => cases b <;> rfl
    | cons x r => cases r <;> cases b <;> rfl
theorem sg_tup {k : Nat} (hc : X.calm = true) (h : SGs X as t) (ht : ∀ i, t ≠ .name i) (hn : (assignEach as X.env).length = as.length) (hst : (assignEach as X.env).findIdx? (·.1) = none) : SG X (.Tuple as k pos) t := by
  intro σ ρ S H v d ρ1 Q en hv e q
  rcases hv with hv | ⟨_, T, u1, u2, d1, d2, rfl, hT, rfl, q1, q2⟩
  case inr =>
    have D : DqA X.K (hid S H) [u1, u2] [d1, d2] := .cons q1 (.cons q2 .nil)
    refine wg_of (pg_tup hc pgs_wg hn hst) ⟨_, _, rfl, sqT_ext hid_ext hT, ?_, h.run σ ρ S H _ _ ρ1 Q en D e q⟩
    exact h.len _ _ _ e
  cases hv with
  | tup h1 h2 =>
    refine wg_of (pg_tup hc pgs_wg hn hst) ⟨_, _, rfl, sqT_ext hid_ext h1.t, ?_, h.run σ ρ S H _ _ ρ1 Q en h2 e q⟩
    rw [h2.length]
    exact h.len _ _ _ e
  | lst h1 h2 =>
    rw [tg_list ht] at e
    refine wg_of (pg_unl hc pgs_wg hn hst) ⟨_, _, rfl, sqL_ext hid_ext h1, ?_, h.run σ ρ S H _ _ ρ1 Q en h2 e q⟩
    rw [h2.length]
    exact h.len _ _ _ e
  | _ =>
    cases t with
    | name i => exact absurd rfl (ht i)
    | nil => cases e
    | cons a b => cases b <;> cases e
end
end Iv
end

section
set_option Elab.async false
set_option linter.all false
set_option maxRecDepth 100000
set_option maxHeartbeats 4000000
namespace Iv
open PySem L2

/-! ### list comprehensions -/
def Bk (X : Cx) (scope : Scope) (Y : Cx) : Prop := ∃ (s : Shared) (H : Hp) (C : Addr) (cl : List (Str × Addr)) (fp : List Addr), Y = X.blk s H scope (compEnvC scope cl C X.env) fp
theorem Bk.K {X : Cx} {scope : Scope} {Y : Cx} (h : Bk X scope Y) : Y.K = X.K := by
  obtain ⟨s, H, C, cl, fp, rfl⟩ := h
  rfl
def WTs (X : Cx) (ifs : List Expr) : TT := fun σ H Q => ∀ (pins : List (Addr × Obj)) (s : Shared), Inv X pins σ H s →
  wpAny (model X.prog X.w) X.A (forIn ifs true fun c r => if r = true then do let ok ← isTrue c X.env (eval c X.env); pure (ForInStep.yield ok) else pure (ForInStep.yield r)) (TP X pins σ Q) X.xe s
def STs (c : Cc) (X : Cx) (ifs : List Expr) (x : E) : Prop := ∀ ρ S σ H Q, Dm S H → EnOk X.K S H σ ρ → PostT c X.K σ ρ S H Q (ev c.cl x ρ) → WTs X ifs σ H Q
theorem sts_nil {c : Cc} {X : Cx} : STs c X [] (.c (.bool true)) := fun ρ S σ H Q hd en hp pins s I => (pts_nil (X := X)).run pins s σ H Q I (hp S H (Fr.refl hd) en Sub.refl)
theorem sts_one {c : Cc} {X : Cx} {t : Expr} {x : E} (h : ST c X t x) : STs c X [t] x := fun ρ S σ H Q hd en hp pins s I => (pts_one pt_wt).run pins s σ H Q I (h ρ S σ H Q hd en hp)
def calm0 (c : Cc) : Cc := { c with W := fun _ _ _ _ => False }

theorem yd_fr {K : PySem.W.Frag} {G : Hp} {tg : Expr} {items : List PyData} {i : Nat} {S : Hd} {H H' : Hp} {x : V} (hd : Dm S H) (e : Ext G (hid S H)) (y : YD K G tg items i H x H') : ∃ d, items[i]? = some d ∧ Fr S H (fun _ => False) S H' ∧ Dy K (hid S H') tg x d := by
  obtain ⟨d, e1, q⟩ := y
  refine ⟨d, e1, ?_⟩
  rcases q with ⟨rfl, q⟩ | ⟨ht, T, u1, u2, d1, d2, rfl, e2, rfl, rfl, q1, q2⟩
  · exact ⟨Fr.refl hd, .inl (q.mono e)⟩
  · have f := Fr.alloc (O := fun _ => False) (o := .tup [u1, u2]) hd e2
    refine ⟨f, .inr ⟨ht, T, u1, u2, d1, d2, rfl, SqT.of (hid_some ?_ upd_same), rfl, q1.mono (e.trans f.hid), q2.mono (e.trans f.hid)⟩⟩
    cases hs : S T with
    | false => rfl
    | true => exact absurd e2 (hd T hs)
theorem comp_len {test elt : En → R En (Val × En)} {tg : Tg} : ∀ {items acc : List PyData} {ρ : En} {ds : List PyData} {ρ' : En}, compGo test elt tg items acc ρ = .ok (ds, ρ') → acc.length ≤ ds.length
  | [], acc, ρ, ds, ρ', h => by cases h; exact Nat.le_refl _
  | x :: r, acc, ρ, ds, ρ', h => by
    unfold compGo at h
    split at h
    · cases h
    · split at h
      · split at h
        · have := comp_len h
          simp at this
          omega
        · cases h
      · exact comp_len h
      · cases h
theorem wipeE_len (ρ : En) : ∀ vs : List Nat, (wipeE ρ vs).length = ρ.length
  | [] => rfl
  | v :: vs => by unfold wipeE; rw [List.length_set, wipeE_len ρ vs]
theorem wipeE_get (ρ : En) : ∀ (vs : List Nat) (j : Nat) (s : Slot), (wipeE ρ vs)[j]? = some s → (j ∈ vs ∧ s = .no) ∨ (j ∉ vs ∧ ρ[j]? = some s)
  | [], j, s, h => .inr ⟨by simp, h⟩
  | v :: vs, j, s, h => by
    unfold wipeE at h
    by_cases e : v = j
    · subst e
      by_cases hl : v < (wipeE ρ vs).length
      · rw [List.getElem?_set_self hl] at h
        exact .inl ⟨List.mem_cons_self, (Option.some.inj h).symm⟩
      · rw [List.getElem?_eq_none (by rw [List.length_set]; omega)] at h; cases h
    · rw [List.getElem?_set_ne e] at h
      rcases wipeE_get ρ vs j s h with ⟨m, z⟩ | ⟨m, z⟩
      · exact .inl ⟨List.mem_cons_of_mem _ m, z⟩
      · exact .inr ⟨fun w => (List.mem_cons.mp w).elim (fun q => e q.symm) m, z⟩
theorem slot_of {K : PySem.W.Frag} {S : Hd} {H : Hp} {σ σ1 : St} {j : Nat} {s : Slot} (h : SlotOk K S H σ j s) (e : ∀ v, σ[j]? = some (some v) → σ1[j]? = some (some v)) : SlotOk K S H σ1 j s := by
  cases s with
  | no => trivial
  | dat d => obtain ⟨u, e1, q⟩ := h; exact ⟨u, e _ e1, q⟩
  | own d => obtain ⟨p, us, e1, q⟩ := h; exact ⟨p, us, e _ e1, q⟩
  | lock d => obtain ⟨p, us, e1, q⟩ := h; exact ⟨p, us, e _ e1, q⟩
theorem en_wipe {K : PySem.W.Frag} {S : Hd} {H : Hp} {σ : St} {ρ : En} (en : EnOk K S H σ ρ) (vs : List Nat) : EnOk K S H (wipe σ vs) (wipeE ρ vs) ∧ ∀ p, Owns (wipe σ vs) (wipeE ρ vs) p → Owns σ ρ p := by
  have keep : ∀ (j : Nat) (v : V), j ∉ vs → σ[j]? = some (some v) → (wipe σ vs)[j]? = some (some v) := fun j v hj e => by rw [wipe_get, if_neg hj]; exact e
  refine ⟨⟨by rw [wipeE_len, wipe_length]; exact en.len, fun j s hj => ?_, fun j k sj sk p njk hj hk oj ok' ej ek => ?_⟩, fun p ⟨j, s, hj, oj, ej⟩ => ?_⟩
  · rcases wipeE_get ρ vs j s hj with ⟨_, rfl⟩ | ⟨m, h⟩
    · trivial
    · exact slot_of (en.slot j s h) fun v e => keep j v m e
  · rcases wipeE_get ρ vs j sj hj with ⟨_, rfl⟩ | ⟨m, h⟩
    · cases oj
    · rcases wipeE_get ρ vs k sk hk with ⟨_, rfl⟩ | ⟨m', h'⟩
      · cases ok'
      · exact en.apart j k sj sk p njk h h' oj ok' (wipe_some ej).1 (wipe_some ek).1
  · rcases wipeE_get ρ vs j s hj with ⟨_, rfl⟩ | ⟨m, h⟩
    · cases oj
    · exact ⟨j, s, h, oj, (wipe_some ej).1⟩
theorem backE_len (ρ ρ' : En) : ∀ vs : List Nat, (backE ρ ρ' vs).length = ρ'.length
  | [] => rfl
  | v :: vs => by
    unfold backE
    split
    · rw [List.length_set, backE_len ρ ρ' vs]
    · exact backE_len ρ ρ' vs
theorem backE_get (ρ ρ' : En) (hl : ρ.length = ρ'.length) : ∀ (vs : List Nat) (j : Nat) (s : Slot), (backE ρ ρ' vs)[j]? = some s → (j ∈ vs ∧ ρ[j]? = some s) ∨ (j ∉ vs ∧ ρ'[j]? = some s)
  | [], j, s, h => .inr ⟨by simp, h⟩
  | v :: vs, j, s, h => by
    unfold backE at h
    split at h
    · rename_i s0 h0
      by_cases e : v = j
      · subst e
        by_cases hl2 : v < (backE ρ ρ' vs).length
        · rw [List.getElem?_set_self hl2] at h
          exact .inl ⟨List.mem_cons_self, by rw [h0]; exact h⟩
        · rw [List.getElem?_eq_none (by rw [List.length_set]; omega)] at h; cases h
      · rw [List.getElem?_set_ne e] at h
        rcases backE_get ρ ρ' hl vs j s h with ⟨m, z⟩ | ⟨m, z⟩
        · exact .inl ⟨List.mem_cons_of_mem _ m, z⟩
        · exact .inr ⟨fun w => (List.mem_cons.mp w).elim (fun q => e q.symm) m, z⟩
    · rename_i h0
      have hv : ρ.length ≤ v := List.getElem?_eq_none_iff.mp h0
      have hj : j < ρ'.length := by
        have := (List.getElem?_eq_some_iff.mp h).1
        rw [backE_len] at this
        exact this
      have e : v ≠ j := by omega
      rcases backE_get ρ ρ' hl vs j s h with ⟨m, z⟩ | ⟨m, z⟩
      · exact .inl ⟨List.mem_cons_of_mem _ m, z⟩
      · exact .inr ⟨fun w => (List.mem_cons.mp w).elim (fun q => e q.symm) m, z⟩
/-- the names behind a comprehension -/
theorem en_back {K : PySem.W.Frag} {S S' : Hd} {H H' : Hp} {σ : St} {ρ ρ' : En} {vs : List Nat} (en : EnOk K S H σ ρ) (f : Fr S H (Owns (wipe σ vs) (wipeE ρ vs)) S' H') (en' : EnOk K S' H' (wipe σ vs) ρ') (sb : ∀ p, Owns (wipe σ vs) ρ' p → Owns (wipe σ vs) (wipeE ρ vs) p) :
    EnOk K S' H' σ (backE ρ ρ' vs) ∧ Sub σ ρ (backE ρ ρ' vs) := by
  have hl : ρ.length = ρ'.length := by rw [en.len, en'.len, wipe_length]
  -- what is owned within is not owned by the block's own names
  have ap : ∀ (j : Nat) (s : Slot) (p : Addr), j ∈ vs → ρ[j]? = some s → isOwn s = true → σ[j]? = some (some (.ref p)) → ¬ Owns (wipe σ vs) (wipeE ρ vs) p := fun j s p hj h o e ⟨k, s', hk, o', e'⟩ => by
    rcases wipeE_get ρ vs k s' hk with ⟨_, rfl⟩ | ⟨m, h'⟩
    · cases o'
    · exact en.apart j k s s' p (fun z => m (by rw [← z]; exact hj)) h h' o o' e (wipe_some e').1
  have own' : ∀ (j : Nat) (s : Slot) (p : Addr), j ∉ vs → ρ'[j]? = some s → isOwn s = true → σ[j]? = some (some (.ref p)) → Owns (wipe σ vs) (wipeE ρ vs) p := fun j s p hj h o e => sb p ⟨j, s, h, o, by rw [wipe_get, if_neg hj]; exact e⟩
  refine ⟨⟨by rw [backE_len, ← hl]; exact en.len, fun j s hj => ?_, fun j k sj sk p njk hj hk oj ok' ej ek => ?_⟩, fun p ⟨j, s, hj, oj, ej⟩ => ?_⟩
  · rcases backE_get ρ ρ' hl vs j s hj with ⟨m, h⟩ | ⟨m, h⟩
    · exact (en.slot j s h).step f fun p o e => ap j s p m h o e
    · exact slot_of (en'.slot j s h) fun v e => (wipe_some e).1
  · rcases backE_get ρ ρ' hl vs j sj hj with ⟨m, h⟩ | ⟨m, h⟩
    · rcases backE_get ρ ρ' hl vs k sk hk with ⟨m', h'⟩ | ⟨m', h'⟩
      · exact en.apart j k sj sk p njk h h' oj ok' ej ek
      · exact ap j sj p m h oj ej (own' k sk p m' h' ok' ek)
    · rcases backE_get ρ ρ' hl vs k sk hk with ⟨m', h'⟩ | ⟨m', h'⟩
      · exact ap k sk p m' h' ok' ek (own' j sj p m h oj ej)
      · exact en'.apart j k sj sk p njk h h' oj ok' (by rw [wipe_get, if_neg m]; exact ej) (by rw [wipe_get, if_neg m']; exact ek)
  · rcases backE_get ρ ρ' hl vs j s hj with ⟨m, h⟩ | ⟨m, h⟩
    · exact ⟨j, s, h, oj, ej⟩
    · exact (en_wipe en vs).2 p (own' j s p m h oj ej)
section
variable {c : Cc} {X : Cx} {tgE iter elt : Expr} {ifs : List Expr} {scope : Scope} {k : Src} {src test x : E} {tg : Tg} {pos : Pos}
def gB (X : Cx) (scope : Scope) (tgE : Expr) : TG := fun v σ H Q => ∀ Y, Bk X scope Y → WG Y tgE v σ H Q
def tB' (X : Cx) (scope : Scope) (ifs : List Expr) : TT := fun σ H Q => ∀ Y, Bk X scope Y → WTs Y ifs σ H Q
def eB (X : Cx) (scope : Scope) (elt : Expr) : TE := fun σ H Q => ∀ Y, Bk X scope Y → WE Y elt σ H Q
theorem lc_sound (hi : SI c X k tgE iter src) (hg : ∀ Y, Bk X scope Y → SG Y tgE tg) (ht : ∀ Y, Bk X scope Y → STs (calm0 c) Y ifs test) (he : ∀ Y, Bk X scope Y → SX (calm0 c) Y elt x)
    {ρ : En} {S : Hd} {σ : St} {H : Hp} {Q : VK} (hd : Dm S H) (en : EnOk X.K S H σ ρ) (hp : PostG c X.K σ ρ S H (GE X.K σ H) Q (ev c.cl (.comp k src tg test x) ρ)) :
    tLc (WI X tgE iter) (gB X scope tgE) (tB' X scope ifs) (eB X scope elt) tg.slots σ H Q := by
  have eq1 : ev c.cl (.comp k src tg test x) ρ = bnd (bnd (evs c.cl src ρ) fun as ρ1 => ofO ρ1 ((argsD as).bind (srcD k))) fun items ρ1 =>
      match compGo (ev c.cl test) (ev c.cl x) tg items [] (wipeE ρ1 tg.slots) with
      | .ok (ds, ρ2) => if ds.length ≤ big then .ok (.new ds, backE ρ1 ρ2 tg.slots) else .bad
      | _ => .bad := by
    show bnd (evs c.cl src ρ) _ = _
    cases hr : evs c.cl src ρ with
    | bad => rfl
    | exc z ρ' => rfl
    | ok r =>
      obtain ⟨as, ρ1⟩ := r
      cases hq : (argsD as).bind (srcD k) with
      | none => simp only [bnd, hq, ofO]
      | some items =>
        simp only [bnd, hq, ofO]
        all_goals (cases compGo (ev c.cl test) (ev c.cl x) tg items [] (wipeE ρ1 tg.slots) <;> rfl)
  rw [eq1] at hp
  refine hi ρ S σ H _ hd en (post_bnd hp fun items ρ1 h1 J S1 H1 f1 en1 s1 g1 => ?_)
  intro D hD
  cases hf : compGo (ev c.cl test) (ev c.cl x) tg items [] (wipeE ρ1 tg.slots) with
  | bad => rw [hf] at h1; exact h1.elim
  | exc z ρ' => rw [hf] at h1; exact h1.elim
  | ok r =>
    obtain ⟨dsF, ρF⟩ := r
    rw [hf] at h1
    have h1 : PostG c X.K σ ρ S H (GE X.K σ H) Q (if dsF.length ≤ big then .ok (.new dsF, backE ρ1 ρF tg.slots) else .bad) := h1
    by_cases hz : dsF.length ≤ big
    · rw [if_pos hz] at h1
      obtain ⟨enw, subw⟩ := en_wipe en1 tg.slots
      have hDo : ¬ Owns (wipe σ tg.slots) (wipeE ρ1 tg.slots) D := fun z => by
        obtain ⟨j, s, hj, oj, ej⟩ := subw D z
        have q := en1.slot j s hj
        cases s with
        | no => cases oj
        | dat d => cases oj
        | own ds =>
          obtain ⟨p, us, e1, _, e3, _⟩ := q
          rw [ej] at e1; cases e1
          rw [hD] at e3; cases e3
        | lock ds =>
          obtain ⟨p, us, e1, _, e3, _⟩ := q
          rw [ej] at e1; cases e1
          rw [hD] at e3; cases e3
      have fa : Fr S1 H1 (fun _ => False) (hide S1 D) (upd H1 D (.lst [])) := Fr.allocH f1.dm hD
      refine lc_it g1 (Pv := fun i Hc => ∃ S' ρ' acc us, Fr S1 H1 (Owns (wipe σ tg.slots) (wipeE ρ1 tg.slots)) S' Hc ∧ EnOk X.K S' Hc (wipe σ tg.slots) ρ' ∧ (∀ p, Owns (wipe σ tg.slots) ρ' p → Owns (wipe σ tg.slots) (wipeE ρ1 tg.slots) p) ∧
        S' D = true ∧ Hc D = some (.lst us) ∧ DqA X.K (hid S' Hc) us acc ∧ compGo (ev c.cl test) (ev c.cl x) tg (items.drop i) acc ρ' = .ok (dsF, ρF)) ?_ ?_ ?_ ?_
      · exact ⟨hide S1 D, _, [], [], fa.imp fun _ z => z.elim, enw.step0 fa, fun _ z => z, hide_same, upd_same, .nil, by simpa using hf⟩
      · rintro i Hc _ ⟨S', ρ', acc, us, f, _⟩
        exact f.hid.trans hid_ext
      · rintro i v Hc Hc' hin ⟨S', ρ', acc, us, f, enc, sbc, hSD, hHD, hacc, hgo⟩ y
        obtain ⟨d, e1, fy, hv⟩ := yd_fr f.dm f.hid y
        have edr : items.drop i = d :: items.drop (i + 1) := by
          have hi' : i < items.length := hin
          rw [List.getElem?_eq_getElem hi'] at e1
          cases e1
          exact List.drop_eq_getElem_cons hi'
        rw [edr] at hgo
        unfold compGo at hgo
        have hDn : ¬ Owns (wipe σ tg.slots) ρ' D := fun z => hDo (sbc D z)
        have ency := enc.step0 fy
        obtain ⟨hSD1, hHD1⟩ := fy.hidn D hSD fun z => z
        cases htg : tgGo tg d ρ' with
        | none => rw [htg] at hgo; cases hgo
        | some ρ2 =>
          rw [htg] at hgo
          simp only at hgo
          intro Y hY
          have hK := hY.K
          refine hg Y hY (wipe σ tg.slots) ρ' S' Hc' v d ρ2 _ (by rw [hK]; exact ency) (by rw [hK]; exact hv) htg fun σ2 z => ?_
          have enz := z.en
          rw [hK] at enz
          refine ⟨by rw [z.ag.wipe]; exact congrArg _ rfl |>.trans (by
            have : L2.wipe (L2.wipe σ tg.slots) tg.slots = L2.wipe σ tg.slots := by
              apply List.ext_getElem?
              intro j
              rw [wipe_get, wipe_get]
              by_cases hm : j ∈ tg.slots
              · rw [if_pos hm, if_pos hm]; cases σ[j]? <;> rfl
              · rw [if_neg hm, if_neg hm]
            exact this), fun Y2 hY2 => ?_⟩
          have hK2 := hY2.K
          have hDz : ¬ Owns σ2 ρ2 D := fun w => hDn (z.own D w)
          -- what a turn leaves
          have turn : ∀ (S3 : Hd) (H3 : Hp) (ρ3 : En) (acc' : List PyData) (us' : List V) (S4 : Hd) (H4 : Hp), Fr S' Hc' (Owns σ2 ρ2) S3 H3 → EnOk X.K S3 H3 σ2 ρ3 → Sub σ2 ρ2 ρ3 → (S4 = S3) → (H4 = H3 ∧ us' = us ∧ acc' = acc ∨ ∃ y w, H4 = upd H3 D (.lst (us ++ [y])) ∧ us' = us ++ [y] ∧ acc' = acc ++ [w] ∧ Dq X.K (hid S3 H3) y w) →
              compGo (ev c.cl test) (ev c.cl x) tg (items.drop (i + 1)) acc' (wipeE ρ3 tg.slots) = .ok (dsF, ρF) →
              ∃ S' ρ' acc us, Fr S1 H1 (Owns (wipe σ tg.slots) (wipeE ρ1 tg.slots)) S' H4 ∧ EnOk X.K S' H4 (wipe σ tg.slots) ρ' ∧ (∀ p, Owns (wipe σ tg.slots) ρ' p → Owns (wipe σ tg.slots) (wipeE ρ1 tg.slots) p) ∧
                S' D = true ∧ H4 D = some (.lst us) ∧ DqA X.K (hid S' H4) us acc ∧ compGo (ev c.cl test) (ev c.cl x) tg (items.drop (i + 1)) acc ρ' = .ok (dsF, ρF) := by
            intro S3 H3 ρ3 acc' us' S4 H4 f3 en3 s3 e4 alt hgo'
            subst e4
            have own3 : ∀ p, Owns σ2 ρ3 p → Owns (wipe σ tg.slots) (wipeE ρ1 tg.slots) p := fun p w => sbc p (z.own p (s3 p w))
            have f13 : Fr S1 H1 (Owns (wipe σ tg.slots) (wipeE ρ1 tg.slots)) S4 H3 := (f.trans (fy.imp fun _ w => w.elim (C := False)) fun _ w => w.elim).trans f3 fun p w => .inl (sbc p (z.own p w))
            obtain ⟨q1, q2⟩ := f3.hidn D (by exact hSD1) hDz
            have hH3 : H3 D = some (.lst us) := q2.trans (hHD1.trans hHD)
            have hacc3 : DqA X.K (hid S4 H3) us acc := (hacc.mono fy.hid).mono f3.hid
            obtain ⟨enw3, subw3⟩ := en_wipe en3 tg.slots
            have ew : L2.wipe σ2 tg.slots = L2.wipe σ tg.slots := by
              rw [z.ag.wipe]
              apply List.ext_getElem?
              intro j
              rw [wipe_get, wipe_get]
              by_cases hm : j ∈ tg.slots
              · rw [if_pos hm, if_pos hm]; cases σ[j]? <;> rfl
              · rw [if_neg hm, if_neg hm]
            rw [ew] at enw3 subw3
            rcases alt with ⟨rfl, rfl, rfl⟩ | ⟨y, w, rfl, rfl, rfl, hy⟩
            · exact ⟨S4, _, _, _, f13, enw3, fun p w => own3 p (subw3 p w), q1, hH3, hacc3, hgo'⟩
            · have fs : Fr S4 H3 (fun q => q = D) S4 (upd H3 D (.lst (us ++ [y]))) := Fr.store f3.dm rfl q1
              have hDw : ¬ Owns (wipe σ tg.slots) (wipeE ρ3 tg.slots) D := fun w => hDo (own3 D (subw3 D w))
              refine ⟨S4, _, _, _, f13.trans fs fun q e => .inr (by subst e; exact hD), enw3.step fs fun q w e => hDw (by subst e; exact w), fun p w => own3 p (subw3 p w), q1, upd_same, ((hacc3.append (.cons hy .nil)).mono fs.hid), hgo'⟩
          refine ht Y2 hY2 ρ2 S' σ2 Hc' _ fy.dm (by rw [hK2]; exact enz) ?_
          rw [hK2]
          show PostT _ _ _ _ _ _ _ (ev c.cl test ρ2)
          cases het : ev c.cl test ρ2 with
          | bad => rw [het] at hgo; cases hgo
          | exc w ρ' => rw [het] at hgo; cases hgo
          | ok r =>
            obtain ⟨val, ρ3⟩ := r
            rw [het] at hgo
            cases val with
            | new ds => cases hgo
            | dat d3 =>
              cases d3 with
              | bool b =>
                intro S3 H3 f3 en3 s3
                cases b with
                | false =>
                  rw [if_neg Bool.false_ne_true]
                  exact turn S3 H3 ρ3 acc us S3 H3 f3 en3 s3 rfl (.inl ⟨rfl, rfl, rfl⟩) hgo
                | true =>
                  rw [if_pos rfl]
                  intro Y3 hY3
                  have hK3 := hY3.K
                  simp only at hgo
                  refine (he Y3 hY3).se.sd ρ3 S3 σ2 H3 _ f3.dm (by rw [hK3]; exact en3) ?_
                  rw [hK3]
                  show PostG _ _ _ _ _ _ _ _ ((ev c.cl x ρ3).map _)
                  cases hex : ev c.cl x ρ3 with
                  | bad => rw [hex] at hgo; cases hgo
                  | exc w ρ' => rw [hex] at hgo; cases hgo
                  | ok r =>
                    obtain ⟨v4, ρ4⟩ := r
                    rw [hex] at hgo
                    simp only at hgo
                    intro u S4 H4 f4 en4 s4 g4
                    have f34 : Fr S' Hc' (Owns σ2 ρ2) S4 H4 := f3.trans f4 fun p w => .inl (s3 p w)
                    obtain ⟨q1, q2⟩ := f34.hidn D hSD1 hDz
                    have hH4 : H4 D = some (.lst us) := q2.trans (hHD1.trans hHD)
                    have hl : us.length ≤ big := by
                      have := comp_len hgo
                      rw [List.length_append] at this
                      have e2 := hacc.length
                      simp at this
                      omega
                    refine ⟨us, hH4, Nat.lt_of_le_of_lt hl (by decide), ?_⟩
                    exact turn S4 H4 ρ4 (acc ++ [v4.d]) (us ++ [u]) S4 _ f34 en4 (s3.trans s4) rfl (.inr ⟨u, v4.d, rfl, rfl, rfl, g4⟩) hgo
              | _ => cases hgo
      · rintro Hc ⟨S', ρ', acc, us, f, enc, sbc, hSD, hHD, hacc, hgo⟩
        rw [List.drop_length] at hgo
        unfold compGo at hgo
        cases hgo
        obtain ⟨enb, sbb⟩ := en_back en1 f enc sbc
        have f2 : Fr S H (Owns σ ρ) S' Hc := f1.trans f fun p w => .inl (s1 p (subw p w))
        refine h1 (.ref D) S' Hc f2 enb (s1.trans sbb) ⟨D, us, rfl, hSD, hHD, hacc, fun w => ?_, f1.fresh hD⟩
        have w2 := sbb D w
        obtain ⟨j, s, hj, oj, ej⟩ := w2
        have q := en1.slot j s hj
        cases s with
        | no => cases oj
        | dat d => cases oj
        | own ds =>
          obtain ⟨p, us, e1, _, e3, _⟩ := q
          rw [ej] at e1; cases e1
          rw [hD] at e3; cases e3
        | lock ds =>
          obtain ⟨p, us, e1, _, e3, _⟩ := q
          rw [ej] at e1; cases e1
          rw [hD] at e3; cases e3
    · rw [if_neg hz] at h1; exact h1.elim
end
end Iv
end

section
set_option Elab.async false
set_option linter.all false
set_option maxRecDepth 100000
set_option maxHeartbeats 4000000
namespace Iv
open PySem L2

/-! ### statements -/
def WS (X : Cx) (st : Stmt) : TS := fun D σ H => ∀ (pins : List (Addr × Obj)) (s : Shared), Inv X pins σ H s → wpAny (model X.prog X.w) X.A (PySem.exec st X.env) (SP X pins D) X.xe s
def WB (X : Cx) (st : List Stmt) : TS := fun D σ H => ∀ (pins : List (Addr × Obj)) (s : Shared), Inv X pins σ H s → wpAny (model X.prog X.w) X.A (execs st X.env) (SP X pins D) X.xe s
theorem ps_ws {X : Cx} {st : Stmt} : PS X st (WS X st) := ⟨fun pins s σ H D I h => h pins s I⟩
theorem pss_wb {X : Cx} {st : List Stmt} : PSs X st (WB X st) := ⟨fun pins s σ H D I h => h pins s I⟩
theorem ws_of {X : Cx} {st : Stmt} {t : TS} {D : Ends} {σ : St} {H : Hp} (h : PS X st t) (q : t D σ H) : WS X st D σ H := fun pins s I => h.run pins s σ H D I q
theorem wb_of {X : Cx} {st : List Stmt} {t : TS} {D : Ends} {σ : St} {H : Hp} (h : PSs X st t) (q : t D σ H) : WB X st D σ H := fun pins s I => h.run pins s σ H D I q
/-- what is owned behind a statement was owned before, or is new; P's slots hold what they held -/
structure SubS (P : List Nat) (σ : St) (ρ : En) (H : Hp) (σ' : St) (ρ' : En) : Prop where
  own : ∀ p, Owns σ' ρ' p → Owns σ ρ p ∨ H p = none
  prot : ∀ j ∈ P, σ'[j]? = σ[j]?
def VRet (K : PySem.W.Frag) (σ : St) (ρ : En) (H : Hp) (S' : Hd) (H' : Hp) (σ' : St) (ρ' : En) (u : V) : Val → Prop
  | .dat d => Dq K (hid S' H') u d
  | .new ds => ∃ p vs, u = .ref p ∧ S' p = true ∧ H' p = some (.lst vs) ∧ DqA K (hid S' H') vs ds ∧ ¬ Owns σ' ρ' p ∧ (Owns σ ρ p ∨ H p = none)
def PostS (c : Cc) (K : PySem.W.Frag) (P : List Nat) (σ : St) (ρ : En) (S : Hd) (H : Hp) (D : Ends) : R En Out → Prop
  | .ok (.next ρ') => ∀ σ' S' H', Fr S H (Owns σ ρ) S' H' → EnOk K S' H' σ' ρ' → SubS P σ ρ H σ' ρ' → D.nx σ' H'
  | .ok (.brk ρ') => ∀ σ' S' H', Fr S H (Owns σ ρ) S' H' → EnOk K S' H' σ' ρ' → SubS P σ ρ H σ' ρ' → D.bk σ' H'
  | .ok (.cont ρ') => ∀ σ' S' H', Fr S H (Owns σ ρ) S' H' → EnOk K S' H' σ' ρ' → SubS P σ ρ H σ' ρ' → D.ct σ' H'
  | .ok (.ret v ρ') => ∀ u σ' S' H', Fr S H (Owns σ ρ) S' H' → EnOk K S' H' σ' ρ' → SubS P σ ρ H σ' ρ' → VRet K σ ρ H S' H' σ' ρ' u v → D.rt u H'
  | .exc x ρ' => ∀ d σ' S' H', Fr S H (Owns σ ρ) S' H' → EnOk K S' H' σ' ρ' → SubS P σ ρ H σ' ρ' → XOk K S' H' d x → c.W (c.ca x.cls) (some d) σ' H'
  | .bad => False
def SS (c : Cc) (X : Cx) (P : List Nat) (st : Stmt) (x : C) : Prop := ∀ ρ S σ H D, Dm S H → EnOk X.K S H σ ρ → PostS c X.K P σ ρ S H D (exec c.cl P x ρ) → WS X st D σ H
def SB' (c : Cc) (X : Cx) (P : List Nat) (st : List Stmt) (x : C) : Prop := ∀ ρ S σ H D, Dm S H → EnOk X.K S H σ ρ → PostS c X.K P σ ρ S H D (exec c.cl P x ρ) → WB X st D σ H
section
variable {c : Cc} {K : PySem.W.Frag} {P : List Nat} {σ σ1 : St} {ρ ρ1 : En} {S S1 : Hd} {H H1 : Hp} {D : Ends}
theorem SubS.refl : SubS P σ ρ H σ ρ := ⟨fun _ h => .inl h, fun _ _ => rfl⟩
theorem SubS.of (s : Sub σ ρ ρ1) : SubS P σ ρ H σ ρ1 := ⟨fun p h => .inl (s p h), fun _ _ => rfl⟩
theorem SubS.trans {σ2 : St} {ρ2 : En} {O : Addr → Prop} (f : Fr S H O S1 H1) (a : SubS P σ ρ H σ1 ρ1) (b : SubS P σ1 ρ1 H1 σ2 ρ2) : SubS P σ ρ H σ2 ρ2 :=
  ⟨fun p h => (b.own p h).elim (a.own p) fun z => .inr (f.fresh z), fun j hj => (b.prot j hj).trans (a.prot j hj)⟩
theorem VRet.back {S' : Hd} {H' : Hp} {σ' : St} {ρ' : En} {u : V} {v : Val} (f : Fr S H (Owns σ ρ) S1 H1) (a : SubS P σ ρ H σ1 ρ1) (h : VRet K σ1 ρ1 H1 S' H' σ' ρ' u v) : VRet K σ ρ H S' H' σ' ρ' u v := by
  cases v with
  | dat d => exact h
  | new ds =>
    obtain ⟨p, vs, e1, e2, e3, e4, e5, e6⟩ := h
    exact ⟨p, vs, e1, e2, e3, e4, e5, e6.elim (a.own p) fun z => .inr (f.fresh z)⟩
theorem VOk.ret {S' : Hd} {H' : Hp} {ρ' : En} {u : V} {v : Val} (h : VOk K H S' H' σ ρ' u v) : VRet K σ ρ H S' H' σ ρ' u v := by
  cases v with
  | dat d => exact h
  | new ds =>
    obtain ⟨p, vs, e1, e2, e3, e4, e5, e6⟩ := h
    exact ⟨p, vs, e1, e2, e3, e4, e5, .inr e6⟩
theorem postS_shift {r : R En Out} (f : Fr S H (Owns σ ρ) S1 H1) (s : SubS P σ ρ H σ1 ρ1) (h : PostS c K P σ ρ S H D r) : PostS c K P σ1 ρ1 S1 H1 D r := by
  have tr : ∀ {S' H'}, Fr S1 H1 (Owns σ1 ρ1) S' H' → Fr S H (Owns σ ρ) S' H' := fun g => f.trans g s.own
  cases r with
  | bad => exact h
  | exc x ρ' => exact fun d σ' S' H' g en sb xo => h d σ' S' H' (tr g) en (s.trans f sb) xo
  | ok o =>
    cases o with
    | next ρ' => exact fun σ' S' H' g en sb => h σ' S' H' (tr g) en (s.trans f sb)
    | brk ρ' => exact fun σ' S' H' g en sb => h σ' S' H' (tr g) en (s.trans f sb)
    | cont ρ' => exact fun σ' S' H' g en sb => h σ' S' H' (tr g) en (s.trans f sb)
    | ret v ρ' => exact fun u σ' S' H' g en sb vr => h u σ' S' H' (tr g) en (s.trans f sb) (vr.back f s)
theorem postS_bnd0 {α β : Type} {G : α → β → Hd → Hp → En → Prop} {Q : β → Hp → Prop} {r : R En (α × En)} {g : α → En → R En Out} (h : PostS c K P σ ρ S H D (bndO r g))
    (k : ∀ a ρ1 v S1 H1, PostS c K P σ ρ S H D (g a ρ1) → Fr S H (Owns σ ρ) S1 H1 → EnOk K S1 H1 σ ρ1 → Sub σ ρ ρ1 → G a v S1 H1 ρ1 → Q v H1) : PostG c K σ ρ S H G Q r := by
  cases r with
  | ok a => exact fun v S1 H1 f1 e1 s1 g1 => k a.1 a.2 v S1 H1 h f1 e1 s1 g1
  | exc x ρ' => exact fun d S1 H1 f1 e1 s1 g1 => h d σ S1 H1 f1 e1 (.of s1) g1
  | bad => exact h
/-- a second expression; what is wanted is told from the first one's start -/
theorem postS_bndX {α β : Type} {G : α → β → Hd → Hp → En → Prop} {Q : β → Hp → Prop} {r : R En (α × En)} {g : α → En → R En Out} (f : Fr S H (Owns σ ρ) S1 H1) (s : Sub σ ρ ρ1) (h : PostS c K P σ ρ S H D (bndO r g))
    (k : ∀ a ρ2 v S2 H2, PostS c K P σ ρ S H D (g a ρ2) → Fr S1 H1 (Owns σ ρ1) S2 H2 → EnOk K S2 H2 σ ρ2 → Sub σ ρ1 ρ2 → G a v S2 H2 ρ2 → Q v H2) : PostG c K σ ρ1 S1 H1 G Q r := by
  cases r with
  | ok a => exact fun v S2 H2 f2 e2 s2 g2 => k a.1 a.2 v S2 H2 h f2 e2 s2 g2
  | exc x ρ' => exact fun d S2 H2 f2 e2 s2 g2 => h d σ S2 H2 (f.trans f2 fun p z => .inl (s p z)) e2 (.of (s.trans s2)) g2
  | bad => exact h
/-- an expression ahead of the rest of a statement -/
theorem postS_bnd {α β : Type} {G : α → β → Hd → Hp → En → Prop} {Q : β → Hp → Prop} {r : R En (α × En)} {g : α → En → R En Out} (h : PostS c K P σ ρ S H D (bndO r g))
    (k : ∀ a ρ1 v S1 H1, PostS c K P σ ρ1 S1 H1 D (g a ρ1) → Fr S H (Owns σ ρ) S1 H1 → EnOk K S1 H1 σ ρ1 → Sub σ ρ ρ1 → G a v S1 H1 ρ1 → Q v H1) : PostG c K σ ρ S H G Q r := by
  cases r with
  | ok a => exact fun v S1 H1 f1 e1 s1 g1 => k a.1 a.2 v S1 H1 (postS_shift f1 (.of s1) h) f1 e1 s1 g1
  | exc x ρ' => exact fun d S1 H1 f1 e1 s1 g1 => h d σ S1 H1 f1 e1 (.of s1) g1
  | bad => exact h
end
section
variable {c : Cc} {X : Cx} {P : List Nat} {st : Stmt} {sts : List Stmt} {a b : C} {e e2 t : Expr} {x y it : E} {pos : Pos}
theorem sb_nil : SB' c X P [] .skip := fun ρ S σ H D hd en hp => wb_of pss_nil (hp σ S H (Fr.refl hd) en .refl)
theorem sb_one (h : SS c X P st a) : SB' c X P [st] a := fun ρ S σ H D hd en hp => wb_of (pss_one ps_ws) (h ρ S σ H D hd en hp)
theorem sb_cons (h : SS c X P st a) (hr : SB' c X P sts b) : SB' c X P (st :: sts) (.seq a b) := by
  intro ρ S σ H D hd en hp
  refine wb_of (pss_cons ps_ws pss_wb) (h ρ S σ H _ hd en ?_)
  have hp : PostS c X.K P σ ρ S H D (thenO (exec c.cl P a ρ) (exec c.cl P b)) := hp
  cases hr' : exec c.cl P a ρ with
  | bad => rw [hr'] at hp; exact hp
  | exc z ρ' => rw [hr'] at hp; exact hp
  | ok o =>
    rw [hr'] at hp
    cases o with
    | next ρ' => exact fun σ' S' H' f en' sb => hr ρ' S' σ' H' D f.dm en' (postS_shift f sb hp)
    | brk ρ' => exact hp
    | cont ρ' => exact hp
    | ret v ρ' => exact hp
theorem ss_pass : SS c X P (.Pass pos) .skip := fun ρ S σ H D hd en hp => ws_of ps_pass (hp σ S H (Fr.refl hd) en .refl)
theorem ss_doc {z : Str} {j : Nat} {pos' : Pos} : SS c X P (.Expr (.Constant (.str z) j pos) pos') .skip := fun ρ S σ H D hd en hp => ws_of ps_doc (hp σ S H (Fr.refl hd) en .refl)
theorem ss_brk : SS c X P (.Break pos) .brk := fun ρ S σ H D hd en hp => ws_of ps_break (hp σ S H (Fr.refl hd) en .refl)
theorem ss_cont : SS c X P (.Continue pos) .cont := fun ρ S σ H D hd en hp => ws_of ps_continue (hp σ S H (Fr.refl hd) en .refl)
theorem ss_drop (h : SX c X e x) (hs : swapsWith e none pos.line X.env = pure false) : SS c X P (.Expr e pos) (.drop x) := fun ρ S σ H D hd en hp =>
  ws_of (ps_expr pe_we hs) (h.se ρ S σ H _ hd en (postS_bnd hp fun v ρ1 u S1 H1 h1 f1 en1 s1 g1 => h1 σ S1 H1 (Fr.refl f1.dm) en1 .refl))
/-- x = e; T reads e -/
theorem ss_set {i : Nat} {T : TE} (hps : PS X st (tAsg T (gName i))) (hT : ∀ ρ S σ H Q, Dm S H → EnOk X.K S H σ ρ → PostG c X.K σ ρ S H (GE X.K σ H) Q (ev c.cl x ρ) → T σ H Q) : SS c X P st (.set i x) := by
  intro ρ S σ H D hd en hp
  have hp : PostS c X.K P σ ρ S H D (if i ∈ P then .bad else bndO (ev c.cl x ρ) fun v ρ1 => .ok (.next (ρ1.set i v.slot))) := hp
  by_cases hi : i ∈ P
  · rw [if_pos hi] at hp; exact hp.elim
  · rw [if_neg hi] at hp
    refine ws_of hps (hT ρ S σ H _ hd en (postS_bnd0 hp fun v ρ1 u S1 H1 h1 f1 en1 s1 g1 => ?_))
    have pr : ∀ w, Ag σ (σ.set i (some w)) [i] → ∀ j ∈ P, (σ.set i (some w))[j]? = σ[j]? := fun w e j hj => e.2 j fun z => hi (by rw [List.mem_singleton.mp z] at hj; exact hj)
    cases v with
    | dat d =>
      obtain ⟨e1, e2, e3⟩ := en_set (i := i) (v := u) (s := .dat d) en1 (fun h => ⟨u, List.getElem?_set_self h, g1⟩) fun p z => by cases z
      exact h1 _ S1 H1 f1 e1 ⟨fun p z => (e2 p z).elim (fun w => .inl (s1 p w)) fun w => Bool.noConfusion w.1, pr u e3⟩
    | new ds =>
      obtain ⟨p, vs, rfl, q2, q3, q4, q5, q6⟩ := g1
      obtain ⟨e1, e2, e3⟩ := en_set (i := i) (v := .ref p) (s := .own ds) en1 (fun h => ⟨p, vs, List.getElem?_set_self h, q2, q3, q4⟩) fun p' _ z => by cases z; exact q5
      exact h1 _ S1 H1 f1 e1 ⟨fun p' z => (e2 p' z).elim (fun w => .inl (s1 p' w)) fun w => .inr (by cases w.2; exact q6), pr _ e3⟩
/-- a value that is to be stored: what the slot then knows -/
def VS (K : PySem.W.Frag) (H0 : Hp) (S : Hd) (H : Hp) (σ : St) (ρ : En) (v : V) (val : Val) : Prop := VOk K H0 S H σ ρ v val
theorem vok_step {K : PySem.W.Frag} {H0 : Hp} {S S' : Hd} {H H' : Hp} {σ : St} {ρ ρ' : En} {v : V} {val : Val} {O : Addr → Prop} (f : Fr S H O S' H') (hO : ∀ p, O p → Owns σ ρ p) (sb : Sub σ ρ ρ') (h : VOk K H0 S H σ ρ v val) : VOk K H0 S' H' σ ρ' v val := by
  cases val with
  | dat d => exact Dq.mono f.hid _ _ h
  | new ds =>
    obtain ⟨p, vs, e1, e2, e3, e4, e5, e6⟩ := h
    obtain ⟨q1, q2⟩ := f.hidn p e2 fun z => e5 (hO p z)
    exact ⟨p, vs, e1, q1, q2.trans e3, e4.mono f.hid, fun z => e5 (sb p z), e6⟩
/-- a value goes into a slot -/
theorem en_val {K : PySem.W.Frag} {H0 : Hp} {S : Hd} {H : Hp} {σ : St} {ρ : En} {i : Nat} {v : V} {val : Val} (en : EnOk K S H σ ρ) (g : VOk K H0 S H σ ρ v val) : EnOk K S H (σ.set i (some v)) (ρ.set i val.slot) ∧ (∀ p, Owns (σ.set i (some v)) (ρ.set i val.slot) p → Owns σ ρ p ∨ (H0 p = none ∧ v = .ref p ∧ ∃ ds, val = .new ds)) ∧ Ag σ (σ.set i (some v)) [i] := by
  cases val with
  | dat d =>
    obtain ⟨e1, e2, e3⟩ := en_set (i := i) (v := v) (s := .dat d) en (fun h => ⟨v, List.getElem?_set_self h, g⟩) fun p z => by cases z
    exact ⟨e1, fun p z => (e2 p z).elim .inl fun w => Bool.noConfusion w.1, e3⟩
  | new ds =>
    obtain ⟨p, vs, rfl, q2, q3, q4, q5, q6⟩ := g
    obtain ⟨e1, e2, e3⟩ := en_set (i := i) (v := .ref p) (s := .own ds) en (fun h => ⟨p, vs, List.getElem?_set_self h, q2, q3, q4⟩) fun p' _ z => by cases z; exact q5
    exact ⟨e1, fun p' z => (e2 p' z).elim .inl fun w => .inr (by cases w.2; exact ⟨q6, rfl, ds, rfl⟩), e3⟩
/-- a, b = x, y -/
theorem ss_par2 {i j : Nat} (hps : PS X st (tPar i j (tCons (WE X e) (tCons (WE X e2) tNil)))) (hij : i ≠ j) (hx : SX c X e x) (hy : SX c X e2 y) : SS c X P st (.par2 i j x y) := by
  intro ρ S σ H D hd en hp
  have hp : PostS c X.K P σ ρ S H D (if i ∈ P ∨ j ∈ P then .bad else bndO (ev c.cl x ρ) fun u ρ1 => bndO (ev c.cl y ρ1) fun v ρ2 => .ok (.next ((ρ2.set i u.slot).set j v.slot))) := hp
  by_cases hi : i ∈ P ∨ j ∈ P
  · rw [if_pos hi] at hp; exact hp.elim
  · rw [if_neg hi] at hp
    refine ws_of hps (hx.se ρ S σ H _ hd en (postS_bnd0 hp fun u ρ1 w1 S1 H1 h1 f1 en1 s1 g1 => ?_))
    refine hy.se ρ1 S1 σ H1 _ f1.dm en1 (postS_bndX f1 s1 h1 fun v ρ2 w2 S2 H2 h2 f2 en2 s2 g2 => ?_)
    refine ⟨w1, w2, rfl, ?_⟩
    have g1' : VOk X.K H S2 H2 σ ρ2 w1 u := vok_step f2 (fun _ z => z) s2 g1
    obtain ⟨a1, a2, a3⟩ := en_val (i := i) en2 g1'
    -- the second value beside the first one
    have g2' : VOk X.K H1 S2 H2 (σ.set i (some w1)) (ρ2.set i u.slot) w2 v := by
      cases v with
      | dat d => exact g2
      | new ds =>
        obtain ⟨p, vs, e1, e2, e3, e4, e5, e6⟩ := g2
        refine ⟨p, vs, e1, e2, e3, e4, fun z => ?_, e6⟩
        rcases a2 p z with w | ⟨w, ew, ds', eu⟩
        · exact e5 w
        · cases eu
          obtain ⟨p', vs', z1, _, z3, _⟩ := g1
          rw [ew] at z1
          cases z1
          rw [e6] at z3
          cases z3
    obtain ⟨b1, b2, b3⟩ := en_val (i := j) a1 g2'
    refine h2 _ S2 H2 (f1.trans f2 fun p z => .inl (s1 p z)) b1 ⟨fun p z => ?_, fun k hk => ?_⟩
    · rcases b2 p z with w | ⟨w, _⟩
      · rcases a2 p w with w | ⟨w, _⟩
        · exact .inl (s1 p (s2 p w))
        · exact .inr w
      · exact .inr (f1.fresh w)
    · rw [b3.2 k fun z => hi (.inr (by rw [List.mem_singleton.mp z] at hk; exact hk)), a3.2 k fun z => hi (.inl (by rw [List.mem_singleton.mp z] at hk; exact hk))]
/-- a, b, c = x, y, z -/
theorem ss_par3 {i j l : Nat} {e3 : Expr} {z : E} (hps : PS X st (tPar3 i j l (tCons (WE X e) (tCons (WE X e2) (tCons (WE X e3) tNil))))) (hx : SX c X e x) (hy : SX c X e2 y) (hz : SX c X e3 z) : SS c X P st (.par3 i j l x y z) := by
  intro ρ S σ H D hd en hp
  have hp : PostS c X.K P σ ρ S H D (if i ∈ P ∨ j ∈ P ∨ l ∈ P then .bad else bndO (ev c.cl x ρ) fun u ρ1 => bndO (ev c.cl y ρ1) fun v ρ2 => bndO (ev c.cl z ρ2) fun w ρ3 => .ok (.next (((ρ3.set i u.slot).set j v.slot).set l w.slot))) := hp
  by_cases hi : i ∈ P ∨ j ∈ P ∨ l ∈ P
  · rw [if_pos hi] at hp; exact hp.elim
  · rw [if_neg hi] at hp
    refine ws_of hps (hx.se ρ S σ H _ hd en (postS_bnd0 hp fun u ρ1 w1 S1 H1 h1 f1 en1 s1 g1 => ?_))
    refine hy.se ρ1 S1 σ H1 _ f1.dm en1 (postS_bndX f1 s1 h1 fun v ρ2 w2 S2 H2 h2 f2 en2 s2 g2 => ?_)
    have f12 := f1.trans f2 fun p z => .inl (s1 p z)
    have s12 := s1.trans s2
    refine hz.se ρ2 S2 σ H2 _ f2.dm en2 (postS_bndX f12 s12 h2 fun w ρ3 w3 S3 H3 h3 f3 en3 s3 g3 => ?_)
    refine ⟨w1, w2, w3, rfl, ?_⟩
    have q1 : VOk X.K H S3 H3 σ ρ3 w1 u := vok_step f3 (fun _ z => z) s3 (vok_step f2 (fun _ z => z) s2 g1)
    have q2 : VOk X.K H1 S3 H3 σ ρ3 w2 v := vok_step f3 (fun _ z => z) s3 g2
    obtain ⟨a1, a2, a3⟩ := en_val (i := i) en3 q1
    have q2' : VOk X.K H1 S3 H3 (σ.set i (some w1)) (ρ3.set i u.slot) w2 v := by
      cases v with
      | dat d => exact q2
      | new ds =>
        obtain ⟨p, vs, e1, e2, e3, e4, e5, e6⟩ := q2
        refine ⟨p, vs, e1, e2, e3, e4, fun z => ?_, e6⟩
        rcases a2 p z with w | ⟨w, ew, ds', eu⟩
        · exact e5 w
        · cases eu
          obtain ⟨p', vs', z1, _, z3, _⟩ := g1
          rw [ew] at z1
          cases z1
          rw [e6] at z3
          cases z3
    obtain ⟨b1, b2, b3⟩ := en_val (i := j) a1 q2'
    have q3' : VOk X.K H2 S3 H3 ((σ.set i (some w1)).set j (some w2)) ((ρ3.set i u.slot).set j v.slot) w3 w := by
      cases w with
      | dat d => exact g3
      | new ds =>
        obtain ⟨p, vs, e1, e2, e3, e4, e5, e6⟩ := g3
        refine ⟨p, vs, e1, e2, e3, e4, fun z => ?_, e6⟩
        rcases b2 p z with w' | ⟨_, ew, ds', eu⟩
        · rcases a2 p w' with w'' | ⟨_, ew, ds', eu⟩
          · exact e5 w''
          · cases eu
            obtain ⟨p', vs', z1, _, z3, _⟩ := g1
            rw [ew] at z1
            cases z1
            exact f2.dom p (by rw [z3]; simp) e6
        · cases eu
          obtain ⟨p', vs', z1, _, z3, _⟩ := g2
          rw [ew] at z1
          cases z1
          rw [e6] at z3
          cases z3
    obtain ⟨c1, c2, c3⟩ := en_val (i := l) b1 q3'
    refine h3 _ S3 H3 (f12.trans f3 fun p z => .inl (s12 p z)) c1 ⟨fun p z => ?_, fun k hk => ?_⟩
    · rcases c2 p z with w | ⟨w, _⟩
      · rcases b2 p w with w | ⟨w, _⟩
        · rcases a2 p w with w | ⟨w, _⟩
          · exact .inl (s12 p (s3 p w))
          · exact .inr w
        · exact .inr (f1.fresh w)
      · exact .inr (f12.fresh w)
    · rw [c3.2 k fun z => hi (.inr (.inr (by rw [List.mem_singleton.mp z] at hk; exact hk))), b3.2 k fun z => hi (.inr (.inl (by rw [List.mem_singleton.mp z] at hk; exact hk))), a3.2 k fun z => hi (.inl (by rw [List.mem_singleton.mp z] at hk; exact hk))]
end
end Iv
end

section
set_option Elab.async false
set_option linter.all false
set_option maxRecDepth 100000
set_option maxHeartbeats 4000000
namespace Iv
open PySem L2
section
variable {c : Cc} {X : Cx} {P : List Nat} {st : Stmt} {sts els : List Stmt} {a b : C} {e e2 t tgE iter : Expr} {x y it src : E} {pos : Pos} {tg : Tg} {k : Src}
theorem prot_of {tg : Tg} {σ σ' : St} (h : tg.slots.any (fun i => decide (i ∈ P)) = false) (ag : Ag σ σ' tg.slots) : ∀ j ∈ P, σ'[j]? = σ[j]? := fun j hj => ag.2 j fun z => by
  have : tg.slots.any (fun i => decide (i ∈ P)) = true := List.any_eq_true.mpr ⟨j, z, by simpa using hj⟩
  rw [h] at this; cases this
/-- (a, b) = e -/
theorem ss_unp (hps : PS X st (tAsg (WE X e) (WG X tgE))) (hx : SX c X e x) (hg : SG X tgE tg) : SS c X P st (.unp tg x) := by
  intro ρ S σ H D hd en hp
  have hp : PostS c X.K P σ ρ S H D (if tg.slots.any (fun i => decide (i ∈ P)) then .bad else bndO (ev c.cl x ρ) fun v ρ1 => match tgGo tg v.d ρ1 with
    | some ρ2 => .ok (.next ρ2)
    | none => .bad) := hp
  cases hi : tg.slots.any (fun i => decide (i ∈ P)) with
  | true => rw [hi] at hp; exact hp.elim
  | false =>
    rw [hi] at hp
    simp only [Bool.false_eq_true, if_false] at hp
    refine ws_of hps (hx.se.sd ρ S σ H _ hd en (post_map (f := Val.d) (postS_bnd0 hp fun v ρ1 u S1 H1 h1 f1 en1 s1 g1 => ?_)))
    cases ht : tgGo tg v.d ρ1 with
    | none => rw [ht] at h1; exact h1.elim
    | some ρ2 =>
      rw [ht] at h1
      refine hg σ ρ1 S1 H1 u v.d ρ2 _ en1 (.inl g1) ht fun σ1 z => h1 σ1 S1 H1 f1 z.en ⟨fun p w => .inl (s1 p (z.own p w)), prot_of hi z.ag⟩
theorem ret_nv {cl : Orc} {ρ : En} (h : isVar x = false) : retGo cl x ρ = bndO (ev cl x ρ) fun v ρ1 => .ok (.ret v ρ1) := by
  cases x <;> first | rfl | cases h
theorem ss_ret (hx : SX c X e x) (hv : isVar x = false) : SS c X P (.Return (some e) pos) (.ret x) := by
  intro ρ S σ H D hd en hp
  have hp : PostS c X.K P σ ρ S H D (retGo c.cl x ρ) := hp
  rw [ret_nv hv] at hp
  exact ws_of (ps_ret pe_we) (hx.se ρ S σ H _ hd en (postS_bnd0 hp fun v ρ1 u S1 H1 h1 f1 en1 s1 g1 => h1 u σ S1 H1 f1 en1 (.of s1) g1.ret))
theorem ss_retV {i : Nat} (hv : PE X e (tVar i)) : SS c X P (.Return (some e) pos) (.ret (.var i)) := by
  intro ρ S σ H D hd en hp
  have hp : PostS c X.K P σ ρ S H D (match ρ[i]? with
    | some (.own ds) => .ok (.ret (.new ds) (ρ.set i .no))
    | _ => bndO (ev c.cl (.var i) ρ) fun v ρ1 => .ok (.ret v ρ1)) := hp
  have gen : PostS c X.K P σ ρ S H D (bndO (ev c.cl (.var i) ρ) fun v ρ1 => .ok (.ret v ρ1)) → WS X (.Return (some e) pos) D σ H := fun hp =>
    ws_of (ps_ret pe_we) ((sx_var hv).se ρ S σ H _ hd en (postS_bnd0 hp fun v ρ1 u S1 H1 h1 f1 en1 s1 g1 => h1 u σ S1 H1 f1 en1 (.of s1) g1.ret))
  cases hi : ρ[i]? with
  | none => rw [hi] at hp; exact gen hp
  | some s =>
    rw [hi] at hp
    cases s with
    | own ds =>
      obtain ⟨p, vs, e1, e2, e3, e4⟩ := en.slot i _ hi
      have hO : Owns σ ρ p := ⟨i, _, hi, rfl, e1⟩
      have hil : i < ρ.length := (List.getElem?_eq_some_iff.mp hi).1
      have each : ∀ (j : Nat) (s : Slot), (ρ.set i .no)[j]? = some s → (j = i ∧ s = .no) ∨ (j ≠ i ∧ ρ[j]? = some s) := fun j s hj => by
        by_cases z : i = j
        · subst z
          rw [List.getElem?_set_self hil] at hj
          exact .inl ⟨rfl, (Option.some.inj hj).symm⟩
        · rw [List.getElem?_set_ne z] at hj
          exact .inr ⟨fun w => z w.symm, hj⟩
      have sb : ∀ q, Owns σ (ρ.set i .no) q → Owns σ ρ q ∧ q ≠ p := fun q ⟨j, s, hj, oj, ej⟩ => by
        rcases each j s hj with ⟨rfl, rfl⟩ | ⟨nj, hj⟩
        · cases oj
        · exact ⟨⟨j, s, hj, oj, ej⟩, fun z => by subst z; exact en.apart j i s _ q nj hj hi oj rfl ej e1⟩
      refine ws_of (ps_ret hv) ⟨.ref p, e1, hp _ σ S H (Fr.refl hd) ⟨by rw [List.length_set]; exact en.len, fun j s hj => ?_, fun j k sj sk q njk hj hk oj ok' ej => ?_⟩ (.of fun q w => (sb q w).1) ⟨p, vs, rfl, e2, e3, e4, fun w => (sb p w).2 rfl, .inl hO⟩⟩
      · rcases each j s hj with ⟨rfl, rfl⟩ | ⟨nj, hj⟩
        · trivial
        · exact en.slot j s hj
      · rcases each j sj hj with ⟨rfl, rfl⟩ | ⟨nj, hj⟩
        · cases oj
        · rcases each k sk hk with ⟨rfl, rfl⟩ | ⟨nk, hk⟩
          · cases ok'
          · exact en.apart j k sj sk q njk hj hk oj ok' ej
    | _ => exact gen hp
theorem ss_retN : SS c X P (.Return none pos) (.ret (.c .none)) := fun ρ S σ H D hd en hp => ws_of ps_retN (hp _ σ S H (Fr.refl hd) en .refl .non)
theorem ss_cond (ht : ST c X t it) (ha : SB' c X P sts a) (hb : SB' c X P els b) : SS c X P (.If t sts els pos) (.cond it a b) := by
  intro ρ S σ H D hd en hp
  have hp : PostS c X.K P σ ρ S H D (bndO (ev c.cl it ρ) fun v ρ1 => match v with
    | .dat (.bool true) => exec c.cl P a ρ1
    | .dat (.bool false) => exec c.cl P b ρ1
    | _ => .bad) := hp
  refine ws_of (ps_if pt_wt pss_wb pss_wb) (ht ρ S σ H _ hd en ?_)
  cases hr : ev c.cl it ρ with
  | bad => rw [hr] at hp; exact hp
  | exc z ρ' => rw [hr] at hp; exact fun d S' H' f en' sb xo => hp d σ S' H' f en' (.of sb) xo
  | ok r =>
    obtain ⟨val, ρ1⟩ := r
    rw [hr] at hp
    cases val with
    | new ds => exact hp.elim
    | dat d =>
      cases d with
      | bool k =>
        intro S1 H1 f1 en1 s1
        cases k with
        | true => rw [if_pos rfl]; exact ha ρ1 S1 σ H1 D f1.dm en1 (postS_shift f1 (.of s1) hp)
        | false => rw [if_neg Bool.false_ne_true]; exact hb ρ1 S1 σ H1 D f1.dm en1 (postS_shift f1 (.of s1) hp)
      | _ => exact hp.elim
/-- for tg in iter: body -/
theorem ss_for (po : PassesOwn (model X.prog X.w) X.A X.env X.xe) (hc : X.calm = true) (hi : SI c X k tgE iter src) (hg : SG X tgE tg) (hb : SB' c X P sts a) (hs : ∀ z, foldedSetIterable iter X.env z = pure z) : SS c X P (.For tgE iter sts [] pos) (.loop k src tg a) := by
  intro ρ S σ H D hd en hp
  have hp : PostS c X.K P σ ρ S H D (if tg.slots.any (fun i => decide (i ∈ P)) then .bad else bndO (evs c.cl src ρ) fun as ρ1 => match (argsD as).bind (srcD k) with
    | some items => loopGo (exec c.cl P a) tg items ρ1
    | none => .bad) := hp
  cases hi' : tg.slots.any (fun i => decide (i ∈ P)) with
  | true => rw [hi'] at hp; exact hp.elim
  | false =>
    rw [hi'] at hp
    simp only [Bool.false_eq_true, if_false] at hp
    have hp : PostS c X.K P σ ρ S H D (bndO (bnd (evs c.cl src ρ) fun as ρ1 => ofO ρ1 ((argsD as).bind (srcD k))) fun items ρ1 => loopGo (exec c.cl P a) tg items ρ1) := by
      cases hr : evs c.cl src ρ with
      | bad => rw [hr] at hp; exact hp
      | exc z ρ' => rw [hr] at hp; exact hp
      | ok r =>
        obtain ⟨as, ρ1⟩ := r
        rw [hr] at hp
        simp only [bndO] at hp
        simp only [bndO, bnd]
        cases hq : (argsD as).bind (srcD k) with
        | none => rw [hq] at hp; exact hp
        | some items => rw [hq] at hp; exact hp
    refine ws_of (ps_for po hc pi_wi pg_wg pss_wb hs) (hi ρ S σ H _ hd en (postS_bnd hp fun items ρ1 J S1 H1 h1 f1 en1 s1 g1 => ?_))
    refine for_it g1 (Pv := fun i σ' H' => ∃ S' ρ', Fr S1 H1 (Owns σ ρ1) S' H' ∧ EnOk X.K S' H' σ' ρ' ∧ SubS P σ ρ1 H1 σ' ρ' ∧ loopGo (exec c.cl P a) tg (items.drop i) ρ' = loopGo (exec c.cl P a) tg items ρ1) ?_ ?_ ?_ ?_
    · exact ⟨S1, ρ1, Fr.refl f1.dm, en1, .refl, by simp⟩
    · rintro i σ' H' _ ⟨S', ρ', f, _⟩
      exact f.hid.trans hid_ext
    · rintro i v σ' H' H2 hin ⟨S', ρ', f, en', sb, hgo⟩ y
      obtain ⟨d, e1, fy, hv⟩ := yd_fr f.dm f.hid y
      have edr : items.drop i = d :: items.drop (i + 1) := by
        have hi2 : i < items.length := hin
        rw [List.getElem?_eq_getElem hi2] at e1
        cases e1
        exact List.drop_eq_getElem_cons hi2
      rw [edr] at hgo
      rw [loopGo] at hgo
      have en2 := en'.step0 fy
      have f2 : Fr S1 H1 (Owns σ ρ1) S' H2 := f.trans (fy.imp fun _ w => w.elim (C := False)) fun _ w => w.elim
      cases htg : tgGo tg d ρ' with
      | none => rw [htg] at hgo; rw [← hgo] at h1; exact h1.elim
      | some ρ2 =>
        rw [htg] at hgo
        simp only at hgo
        refine hg σ' ρ' S' H2 v d ρ2 _ en2 hv htg fun σ2 z => ?_
        have sb2 : SubS P σ ρ1 H1 σ2 ρ2 := ⟨fun p w => sb.own p (z.own p w), fun j hj => (prot_of hi' z.ag j hj).trans (sb.prot j hj)⟩
        refine hb ρ2 S' σ2 H2 _ f2.dm z.en ?_
        have h2 := postS_shift f2 sb2 (by rw [← hgo] at h1; exact h1)
        cases hbd : exec c.cl P a ρ2 with
        | bad => rw [hbd] at h2; exact h2
        | exc w ρ3 => rw [hbd] at h2; exact h2
        | ok o =>
          cases o with
          | next ρ3 =>
            intro σ3 S3 H3 f3 en3 sb3
            rw [hbd] at hgo
            exact ⟨S3, ρ3, f2.trans f3 sb2.own, en3, sb2.trans f2 sb3, hgo⟩
          | cont ρ3 =>
            intro σ3 S3 H3 f3 en3 sb3
            rw [hbd] at hgo
            exact ⟨S3, ρ3, f2.trans f3 sb2.own, en3, sb2.trans f2 sb3, hgo⟩
          | brk ρ3 => rw [hbd] at h2; exact h2
          | ret w ρ3 => rw [hbd] at h2; exact h2
    · rintro σ' H' ⟨S', ρ', f, en', sb, hgo⟩
      rw [List.drop_length] at hgo
      rw [loopGo] at hgo
      rw [← hgo] at h1
      exact h1 σ' S' H' f en' sb
theorem ss_while (po : PassesOwn (model X.prog X.w) X.A X.env X.xe) (ht : ST c X t it) (hb : SB' c X P sts a) : SS c X P (.While t sts [] pos) (.whl it a) := by
  intro ρ S σ H D hd en hp
  have hp : PostS c X.K P σ ρ S H D (whileGo (ev c.cl it) (exec c.cl P a) turns ρ) := hp
  refine ws_of (ps_while po pt_wt pss_wb) ⟨fun m σ' H' => ∃ S' ρ', Fr S H (Owns σ ρ) S' H' ∧ EnOk X.K S' H' σ' ρ' ∧ SubS P σ ρ H σ' ρ' ∧ whileGo (ev c.cl it) (exec c.cl P a) m ρ' = whileGo (ev c.cl it) (exec c.cl P a) turns ρ, ⟨turns, S, ρ, Fr.refl hd, en, .refl, rfl⟩, ?_⟩
  rintro m σ' H' ⟨S', ρ', f, en', sb, hgo⟩
  cases m with
  | zero => rw [whileGo] at hgo; rw [← hgo] at hp; exact hp.elim
  | succ m =>
    rw [whileGo] at hgo
    refine ht ρ' S' σ' H' _ f.dm en' ?_
    cases hr : ev c.cl it ρ' with
    | bad => rw [hr] at hgo; rw [← hgo] at hp; exact hp
    | exc z ρ1 =>
      rw [hr] at hgo
      rw [← hgo] at hp
      exact fun d S1 H1 f1 en1 s1 xo => hp d σ' S1 H1 (f.trans f1 sb.own) en1 (sb.trans f (.of s1)) xo
    | ok r =>
      obtain ⟨val, ρ1⟩ := r
      rw [hr] at hgo
      cases val with
      | new ds => rw [← hgo] at hp; exact hp.elim
      | dat d =>
        cases d with
        | bool k =>
          intro S1 H1 f1 en1 s1
          have f01 : Fr S H (Owns σ ρ) S1 H1 := f.trans f1 sb.own
          have sb1 : SubS P σ ρ H σ' ρ1 := sb.trans f (.of s1)
          cases k with
          | false =>
            rw [if_neg Bool.false_ne_true]
            simp only at hgo
            rw [← hgo] at hp
            exact hp σ' S1 H1 f01 en1 sb1
          | true =>
            rw [if_pos rfl]
            simp only at hgo
            refine ⟨fun σ2 H2 => ∃ S2 ρ2, Fr S H (Owns σ ρ) S2 H2 ∧ EnOk X.K S2 H2 σ2 ρ2 ∧ SubS P σ ρ H σ2 ρ2 ∧ whileGo (ev c.cl it) (exec c.cl P a) m ρ2 = whileGo (ev c.cl it) (exec c.cl P a) turns ρ, fun σ2 H2 z => ⟨m, Nat.lt_succ_self m, z⟩, ?_⟩
            refine hb ρ1 S1 σ' H1 _ f01.dm en1 ?_
            have h2 := postS_shift f01 sb1 (by rw [← hgo] at hp; exact hp)
            cases hbd : exec c.cl P a ρ1 with
            | bad => rw [hbd] at h2; exact h2
            | exc w ρ3 => rw [hbd] at h2; exact h2
            | ok o =>
              cases o with
              | next ρ3 =>
                intro σ3 S3 H3 f3 en3 sb3
                rw [hbd] at hgo
                exact ⟨S3, ρ3, f01.trans f3 sb1.own, en3, sb1.trans f01 sb3, hgo⟩
              | cont ρ3 =>
                intro σ3 S3 H3 f3 en3 sb3
                rw [hbd] at hgo
                exact ⟨S3, ρ3, f01.trans f3 sb1.own, en3, sb1.trans f01 sb3, hgo⟩
              | brk ρ3 => rw [hbd] at h2; exact h2
              | ret w ρ3 => rw [hbd] at h2; exact h2
        | _ => rw [← hgo] at hp; exact hp.elim
/-- a list that a name owns changes -/
theorem en_own {K : PySem.W.Frag} {S : Hd} {H : Hp} {σ : St} {ρ : En} {i : Nat} {ds ds' : List PyData} {p : Addr} {vs' : List V} (hd : Dm S H) (en : EnOk K S H σ ρ) (hi : ρ[i]? = some (.own ds)) (e1 : σ[i]? = some (some (.ref p))) (e2 : S p = true) (h' : DqA K (hid S H) vs' ds') :
    Fr S H (Owns σ ρ) S (upd H p (.lst vs')) ∧ EnOk K S (upd H p (.lst vs')) σ (ρ.set i (.own ds')) ∧ Sub σ ρ (ρ.set i (.own ds')) := by
  have hO : Owns σ ρ p := ⟨i, _, hi, rfl, e1⟩
  have f : Fr S H (fun q => q = p) S (upd H p (.lst vs')) := Fr.store hd rfl e2
  have hil : i < ρ.length := (List.getElem?_eq_some_iff.mp hi).1
  have each : ∀ (j : Nat) (s : Slot), (ρ.set i (.own ds'))[j]? = some s → (j = i ∧ s = .own ds') ∨ (j ≠ i ∧ ρ[j]? = some s) := fun j s hj => by
    by_cases z : i = j
    · subst z
      rw [List.getElem?_set_self hil] at hj
      exact .inl ⟨rfl, (Option.some.inj hj).symm⟩
    · rw [List.getElem?_set_ne z] at hj
      exact .inr ⟨fun w => z w.symm, hj⟩
  have old : ∀ (j : Nat) (s : Slot), (ρ.set i (.own ds'))[j]? = some s → isOwn s = true → ∃ s0, ρ[j]? = some s0 ∧ isOwn s0 = true := fun j s hj o => by
    rcases each j s hj with ⟨rfl, rfl⟩ | ⟨_, h⟩
    · exact ⟨_, hi, rfl⟩
    · exact ⟨s, h, o⟩
  refine ⟨f.imp fun q z => by subst z; exact hO, ⟨by rw [List.length_set]; exact en.len, fun j s hj => ?_, fun j k sj sk q njk hj hk oj ok' ej => ?_⟩, fun q ⟨j, s, hj, oj, ej⟩ => ?_⟩
  · rcases each j s hj with ⟨rfl, rfl⟩ | ⟨nj, hj⟩
    · exact ⟨p, vs', e1, e2, upd_same, h'.mono f.hid⟩
    · refine (en.slot j s hj).step f fun q oq eq z => ?_
      subst z
      exact en.apart j i s _ q nj hj hi oq rfl eq e1
  · obtain ⟨s1, h1, o1⟩ := old j sj hj oj
    obtain ⟨s2, h2, o2⟩ := old k sk hk ok'
    exact en.apart j k s1 s2 q njk h1 h2 o1 o2 ej
  · obtain ⟨s1, h1, o1⟩ := old j s hj oj
    exact ⟨j, s1, h1, o1, ej⟩
theorem own_at {K : PySem.W.Frag} {S : Hd} {H : Hp} {σ : St} {ρ : En} {i : Nat} (en : EnOk K S H σ ρ) (h : ownAt ρ i = true) : ∃ ds p vs, ρ[i]? = some (.own ds) ∧ σ[i]? = some (some (.ref p)) ∧ S p = true ∧ H p = some (.lst vs) ∧ DqA K (hid S H) vs ds := by
  unfold ownAt at h
  split at h
  · rename_i ds hi
    obtain ⟨p, vs, q⟩ := en.slot i _ hi
    exact ⟨ds, p, vs, hi, q⟩
  · cases h
/-- x.append(e) -/
theorem ss_app {o : Expr} {i : Nat} {apos cpos : Pos} (hx : SX c X e x) (hs : swapsWith (.Call (.Attribute o "append" apos) [e] [] cpos) none pos.line X.env = pure false)
    (hpe : PE X (.Call (.Attribute o "append" apos) [e] [] cpos) (tBM X.K "list" rAppend (tVar i) (tCons (WE X e) tNil))) : SS c X P (.Expr (.Call (.Attribute o "append" apos) [e] [] cpos) pos) (.app i x) := by
  intro ρ S σ H D hd en hp
  have hp : PostS c X.K P σ ρ S H D (if ownAt ρ i then bndO (ev c.cl x ρ) fun v ρ1 => match ρ1[i]? with
      | some (.own ds) => if ds.length < big then .ok (.next (ρ1.set i (.own (ds ++ [v.d])))) else .bad
      | _ => .bad
    else .bad) := hp
  cases ho : ownAt ρ i with
  | false => rw [ho] at hp; exact hp.elim
  | true =>
    rw [ho] at hp
    simp only [if_true] at hp
    obtain ⟨ds0, p, vs0, hi0, e1, e2, e3, e4⟩ := own_at en ho
    refine ws_of (ps_expr hpe hs) ⟨.ref p, e1, .inl ⟨rfl, _, SqL.of e3⟩, ?_⟩
    refine hx.se.sd ρ S σ H _ hd en (post_map (f := Val.d) (postS_bnd hp fun v ρ1 u S1 H1 h1 f1 en1 s1 g1 => ?_))
    cases hi : ρ1[i]? with
    | none => rw [hi] at h1; exact h1.elim
    | some s =>
      rw [hi] at h1
      cases s with
      | own ds =>
        obtain ⟨p', vs, z1, z2, z3, z4⟩ := en1.slot i _ hi
        rw [e1] at z1
        cases z1
        have h1 : PostS c X.K P σ ρ1 S1 H1 D (if ds.length < big then .ok (.next (ρ1.set i (.own (ds ++ [v.d])))) else .bad) := h1
        by_cases hz : ds.length < big
        · rw [if_pos hz] at h1
          obtain ⟨f2, en2, s2⟩ := en_own (vs' := vs ++ [u]) (ds' := ds ++ [v.d]) f1.dm en1 hi e1 z2 (z4.append (.cons g1 .nil))
          exact ⟨p, vs, u, rfl, rfl, z3, by rw [z4.length]; exact Nat.lt_trans hz (by decide), h1 σ S1 _ f2 en2 (.of s2)⟩
        · rw [if_neg hz] at h1; exact h1.elim
      | _ => exact h1.elim
/-- x[j] = e -/
theorem ss_put {i : Nat} (hps : PS X st (tAsg (WE X e) (gSub (tVar i) (WE X e2) rSetL))) (hx : SX c X e x) (hy : SX c X e2 y) : SS c X P st (.put i y x) := by
  intro ρ S σ H D hd en hp
  refine ws_of hps (hx.se.sd ρ S σ H _ hd en (post_map (f := Val.d) (postS_bnd hp fun v ρ1 u S1 H1 h1 f1 en1 s1 g1 => ?_)))
  cases ho : ownAt ρ1 i with
  | false => rw [ho] at h1; exact h1.elim
  | true =>
    rw [ho] at h1
    simp only [if_true] at h1
    obtain ⟨ds0, p, vs0, hi0, e1, e2, e3, e4⟩ := own_at en1 ho
    refine ⟨.ref p, e1, hy.se ρ1 S1 σ H1 _ f1.dm en1 (postS_bnd h1 fun w ρ2 u2 S2 H2 h2 f2 en2 s2 g2 => ?_)⟩
    cases w with
    | new ds => exact h2.elim
    | dat dn =>
      cases dn with
      | int n =>
        have g2 : Dq X.K (hid S2 H2) u2 (.int n) := g2
        cases g2
        cases hi : ρ2[i]? with
        | none => rw [hi] at h2; exact h2.elim
        | some s =>
          rw [hi] at h2
          cases s with
          | own ds =>
            obtain ⟨p', vs, z1, z2, z3, z4⟩ := en2.slot i _ hi
            rw [e1] at z1
            cases z1
            have h2 : PostS c X.K P σ ρ2 S2 H2 D (match ixN ds.length n with
              | some k => .ok (.next (ρ2.set i (.own (ds.set k v.d))))
              | none => .bad) := h2
            cases hk : ixN ds.length n with
            | none => rw [hk] at h2; exact h2.elim
            | some k =>
              rw [hk] at h2
              obtain ⟨f3, en3, s3⟩ := en_own (vs' := vs.set k u) (ds' := ds.set k v.d) f2.dm en2 hi e1 z2 (z4.set k (g1.mono f2.hid))
              exact ⟨p, vs, n, k, rfl, rfl, z3, by rw [z4.length]; exact hk, h2 σ S2 _ f3 en3 (.of s3)⟩
          | _ => exact h2.elim
      | _ => exact h2.elim
theorem DqA.eraseIdx {K : PySem.W.Frag} {H : Hp} : ∀ {ds : List PyData} {vs : List V} (n : Nat), DqA K H vs ds → DqA K H (vs.eraseIdx n) (ds.eraseIdx n)
  | [], _, _, h => by cases h; exact .nil
  | d :: ds, _, 0, h => by
    cases h with
    | cons h1 h2 => exact h2
  | d :: ds, _, n + 1, h => by
    cases h with
    | cons h1 h2 => exact .cons h1 (DqA.eraseIdx n h2)
/-- x.pop(j) -/
theorem sx_pop {o : Expr} {i : Nat} {apos cpos : Pos} (hx : SX c X e x) (hpe : PE X (.Call (.Attribute o "pop" apos) [e] [] cpos) (tBM X.K "list" rPopAt (tVar i) (tCons (WE X e) tNil))) : SX c X (.Call (.Attribute o "pop" apos) [e] [] cpos) (.pop i x) := by
  refine sx_of (fun ρ S σ H Q hd en hp => ?_) rfl
  have hp : PostG c X.K σ ρ S H (GE X.K σ H) Q (if ownAt ρ i then bnd (ev c.cl x ρ) fun v ρ1 => match v, ρ1[i]? with
      | .dat (.int j), some (.own ds) => match popD ds j with
        | some (d, ds') => .ok (.dat d, ρ1.set i (.own ds'))
        | none => .bad
      | _, _ => .bad
    else .bad) := hp
  cases ho : ownAt ρ i with
  | false => rw [ho] at hp; exact hp.elim
  | true =>
    rw [ho] at hp
    simp only [if_true] at hp
    obtain ⟨ds0, p, vs0, hi0, e1, e2, e3, e4⟩ := own_at en ho
    refine we_of hpe ⟨.ref p, e1, .inl ⟨rfl, _, SqL.of e3⟩, ?_⟩
    refine hx.se ρ S σ H _ hd en (post_bnd hp fun v ρ1 h1 u S1 H1 f1 en1 s1 g1 => ?_)
    have h1 := post_shiftE f1 s1 h1
    cases v with
    | new ds => exact h1.elim
    | dat dn =>
      cases dn with
      | int n =>
        have g1 : Dq X.K (hid S1 H1) u (.int n) := g1
        cases g1
        cases hi : ρ1[i]? with
        | none => rw [hi] at h1; exact h1.elim
        | some s =>
          rw [hi] at h1
          cases s with
          | own ds =>
            obtain ⟨p', vs, z1, z2, z3, z4⟩ := en1.slot i _ hi
            rw [e1] at z1
            cases z1
            have h1 : PostG c X.K σ ρ1 S1 H1 (GE X.K σ H1) Q (match popD ds n with
              | some (d, ds') => .ok (.dat d, ρ1.set i (.own ds'))
              | none => .bad) := h1
            cases hk : popD ds n with
            | none => rw [hk] at h1; exact h1.elim
            | some r =>
              obtain ⟨d, ds'⟩ := r
              rw [hk] at h1
              unfold popD at hk
              split at hk
              · rename_i hn
                split at hk
                · rename_i kk hkk
                  split at hk
                  · rename_i d' hd'
                    cases hk
                    obtain ⟨w, ew, dw⟩ := z4.get hd'
                    obtain ⟨f2, en2, s2⟩ := en_own (vs' := vs.eraseIdx kk) (ds' := ds.eraseIdx kk) f1.dm en1 hi e1 z2 (z4.eraseIdx kk)
                    exact ⟨p, vs, n, kk, w, rfl, rfl, z3, by omega, by omega, by rw [z4.length]; exact hkk, ew, h1 w S1 _ f2 en2 s2 (Dq.mono f2.hid _ _ dw)⟩
                  · cases hk
                · cases hk
              · cases hk
          | _ => exact h1.elim
      | _ => exact h1.elim
/-- x.insert(j, e) -/
def rIns : V → List V → Hp → VK → Prop := fun x vs H Q => ∃ (l : Addr) (xs : List V) (i : Int) (y : V), x = .ref l ∧ vs = [.int i, y] ∧ H l = some (.lst xs) ∧ xs.length < sizeLine ∧ 0 ≤ i ∧ i < 2 ^ 63 ∧ Q .non (upd H l (.lst (xs.take i.toNat ++ [y] ++ xs.drop i.toNat)))
theorem ss_ins {o : Expr} {i : Nat} {apos cpos : Pos} (hy : SX c X e2 y) (hx : SX c X e x) (hs : swapsWith (.Call (.Attribute o "insert" apos) [e2, e] [] cpos) none pos.line X.env = pure false)
    (hpe : PE X (.Call (.Attribute o "insert" apos) [e2, e] [] cpos) (tBM X.K "list" rIns (tVar i) (tCons (WE X e2) (tCons (WE X e) tNil)))) : SS c X P (.Expr (.Call (.Attribute o "insert" apos) [e2, e] [] cpos) pos) (.ins i y x) := by
  intro ρ S σ H D hd en hp
  have hp : PostS c X.K P σ ρ S H D (if ownAt ρ i then bndO (ev c.cl y ρ) fun w ρ1 => bndO (ev c.cl x ρ1) fun v ρ2 => match w, ρ2[i]? with
      | .dat (.int n), some (.own ds) => if ds.length < big ∧ 0 ≤ n ∧ n < 1000000 then .ok (.next (ρ2.set i (.own (ds.take n.toNat ++ [v.d] ++ ds.drop n.toNat)))) else .bad
      | _, _ => .bad
    else .bad) := hp
  cases ho : ownAt ρ i with
  | false => rw [ho] at hp; exact hp.elim
  | true =>
    rw [ho] at hp
    simp only [if_true] at hp
    obtain ⟨ds0, p, vs0, hi0, e1, e2, e3, e4⟩ := own_at en ho
    refine ws_of (ps_expr hpe hs) ⟨.ref p, e1, .inl ⟨rfl, _, SqL.of e3⟩, ?_⟩
    refine hy.se ρ S σ H _ hd en (postS_bnd hp fun w ρ1 u1 S1 H1 h1 f1 en1 s1 g1 => ?_)
    refine hx.se.sd ρ1 S1 σ H1 _ f1.dm en1 (post_map (f := Val.d) (postS_bnd h1 fun v ρ2 u S2 H2 h2 f2 en2 s2 g2 => ?_))
    cases w with
    | new ds => exact h2.elim
    | dat dn =>
      cases dn with
      | int n =>
        have g1 : Dq X.K (hid S1 H1) u1 (.int n) := g1
        cases g1
        cases hi : ρ2[i]? with
        | none => rw [hi] at h2; exact h2.elim
        | some s =>
          rw [hi] at h2
          cases s with
          | own ds =>
            obtain ⟨p', vs, z1, z2, z3, z4⟩ := en2.slot i _ hi
            rw [e1] at z1
            cases z1
            have h2 : PostS c X.K P σ ρ2 S2 H2 D (if ds.length < big ∧ 0 ≤ n ∧ n < 1000000 then .ok (.next (ρ2.set i (.own (ds.take n.toNat ++ [v.d] ++ ds.drop n.toNat)))) else .bad) := h2
            by_cases hz : ds.length < big ∧ 0 ≤ n ∧ n < 1000000
            · rw [if_pos hz] at h2
              obtain ⟨f3, en3, s3⟩ := en_own (vs' := vs.take n.toNat ++ [u] ++ vs.drop n.toNat) (ds' := ds.take n.toNat ++ [v.d] ++ ds.drop n.toNat) f2.dm en2 hi e1 z2 (((z4.take _).append (.cons g2 .nil)).append (z4.drop _))
              exact ⟨p, vs, n, u, rfl, rfl, z3, by rw [z4.length]; exact Nat.lt_trans hz.1 (by decide), hz.2.1, by omega, h2 σ S2 _ f3 en3 (.of s3)⟩
            · rw [if_neg hz] at h2; exact h2.elim
          | _ => exact h2.elim
      | _ => exact h2.elim
end
end Iv
end

section
set_option Elab.async false
set_option linter.all false
set_option maxRecDepth 100000
set_option maxHeartbeats 4000000
namespace Iv
open PySem PySem.Spec PyProof.Rows L2

/-! ### defs -/
structure Fn where
  ps : List Str
  nm : List Str
  refs : List Nat
  body : C
def slotsOf : List PArg → En
  | [] => []
  | .d d :: r => .dat d :: slotsOf r
  | .r ds :: r => .own ds :: slotsOf r
def refIdx : Nat → List PArg → List Nat
  | _, [] => []
  | i, .d _ :: r => refIdx (i + 1) r
  | i, .r _ :: r => i :: refIdx (i + 1) r
def outs (ρ : En) : List Nat → Option (List (List PyData))
  | [] => some []
  | i :: is => match ρ[i]? with
    | some (.own ds) => (outs ρ is).map (ds :: ·)
    | _ => none
def fnGo (cl : Orc) (fn : Fn) (args : List PArg) : R (List (List PyData)) (Val × List (List PyData)) :=
  if args.length = fn.ps.length ∧ refIdx 0 args = fn.refs then
    match exec cl fn.refs fn.body (slotsOf args ++ List.replicate (fn.nm.length - args.length) .no) with
    | .ok (.ret v ρ') => match outs ρ' fn.refs with
      | some dss => .ok (v, dss)
      | none => .bad
    | .ok (.next ρ') => match outs ρ' fn.refs with
      | some dss => .ok (.dat .none, dss)
      | none => .bad
    | .exc x ρ' => match outs ρ' fn.refs with
      | some dss => .exc x dss
      | none => .bad
    | _ => .bad
  else .bad
def runF (Γ : Str → Option Fn) : Nat → Orc
  | 0 => fun _ _ => .bad
  | k + 1 => fun f args => match Γ f with
    | some fn => fnGo (runF Γ k) fn args
    | none => .bad

/-- a def's promise, where nothing is being shown around it -/
structure Fok (P : Program) (w : World) (K : PySem.W.Frag) (mg : Str → Option Value) (base : Heap) (k : Nat) (f : Addr) (fd : FuncData) (ps : List Str) (sp : Sp) : Prop where
  len : ∀ vs H Q E, sp vs H Q E → vs.length = ps.length
  run : ∀ (A : Around) (outer : List Env) (s : Shared) (H : Hp) (args : Args) (us : List Value) (vs : List V) (Q : VK) (E : XK), Room k A → A.guards = some [] → Env0 P w K mg base A outer s H →
    BindsTo s fd args (ps.zip us) → Vals vs us → sp vs H Q E → codeAny (model P w) A (.call (.ref f) args) (CR (L2.CX P w) outer P w H s Q E) s
theorem fok_of {P : Program} {w : World} {K : PySem.W.Frag} {mg : Str → Option Value} {base : Heap} {k : Nat} {f : Addr} {x qual : Str} {params : Arguments} {body : List Stmt} {scope : Scope} {dvs : List V} {kws : List (Str × V)} {fd : FuncData} {N ps : List Str} {sp : Sp}
    (F : FunD K x qual params body scope dvs kws f fd) (S : FnScope N ps scope) (len : ∀ vs H Q E, sp vs H Q E → vs.length = ps.length)
    (hb : ∀ (cdv : Value) (A : Around) (outer : List Env) (s : Shared) (H : Hp) (vs : List V) (Q : VK) (E : XK), Room k (A.deeper (envOfC qual scope s.heap.objs.size f cdv)) → A.guards = some [] → sp vs H Q E →
      ∃ t, PSs (cxOf (L2.CX P w) P w K mg base N qual scope f cdv A outer s H E) body t ∧ t { nx := fun _ H' => Q .non H', rt := Q } (L2.start N vs) H) : Fok P w K mg base (k + 1) f fd ps sp := by
  obtain ⟨oc, od, dV, kV, doc, pm, an, cdv, ct, osl, rfl, lk, hcd, _, _⟩ := F.ex
  constructor
  · exact len
  · intro A outer s H args us vs Q E hr hgd e0 hbi r hsp
    have hl := len _ _ _ _ hsp
    have kin : K.In s.heap := e0.mod.kin.keeps fun b o e => (e0.bs b o e).1
    have lim : s.heap.NoLimit := e0.mod.nolimit.keeps fun b o e => (e0.bs b o e).1
    have kinds : ∀ y ∈ ps.zip us, scope.names.lookup y.1 = some .local ∨ (scope.names.lookup y.1 = some .cell ∧ ((cellsFrom (s.heap.objs.size + 1) scope.names []).lookup y.1).isSome = true) := by
      rintro ⟨n, v⟩ hy
      exact (S.par n (List.of_mem_zip hy).1).elim .inl fun q => .inr ⟨q, PySem.W.cellsFrom_some _ _ _ (.inl q)⟩
    refine codeAny_call_function hr.depth (kin _ _ lk) rfl S.co S.gen rfl (PySem.W.codeRec_of kin hcd) (hbi _ _ _ _ (wpAny_newFunctionEnv_cells S.kind kinds fun env he s1 z => ?_))
    cases he
    obtain ⟨t, ht, hq⟩ := hb cdv A outer s H vs Q E (hr.deeper _) hgd hsp
    have I := inv_start (CX := L2.CX P w) (E := E) S hr.hd e0 hl r z
    refine ⟨lim.keeps z.toInCall.keep, codeAny_func (wpAny_mono (ht.run [] s1 (L2.start N vs) H _ I hq) (fun fl s' hs => ?_) fun _ _ hs => hs)⟩
    cases fl with
    | ret u => obtain ⟨v, σ', H', J, rv, q⟩ := hs; exact ⟨v, H', J.os, J.bare, J.base, J.hok, rv, q⟩
    | next => obtain ⟨σ', H', J, q⟩ := hs; exact ⟨.non, H', J.os, J.bare, J.base, J.hok, rfl, q⟩
    | brk => obtain ⟨_, _, _, q⟩ := hs; exact q.elim
    | cont => obtain ⟨_, _, _, q⟩ := hs; exact q.elim
section
variable {P : Program} {w : World} {K : PySem.W.Frag} {mg : Str → Option Value} {base : Heap}
/-- from the promise to the calls -/
theorem call_of {X : Cx} {c : Cc} {k : Nat} {f : Str} {fa : Addr} {fd : FuncData} {ps : List Str} (F : Fok X.prog X.w X.K X.mg X.base k fa fd ps (spO X.K c.cl c.ca f)) (hr : Room k X.A) (hg : X.A.guards = some []) (hm : X.mg f = some (.ref fa)) (hk : PySem.W.keepIn X.K (.ref fa) = true)
    (hb : Binds X.K fd ps []) (tk : Takes X c.W) : CallOk c X f := by
  refine ⟨fa, hm, hk, fun σ vs H Q hsp pins s us I r => ?_⟩
  have hl : us.length = ps.length := by rw [← r.length]; exact F.len _ _ _ _ hsp
  have hb' := hb s us I.kIn (by rw [List.append_nil]; exact hl)
  rw [List.append_nil] at hb'
  refine wpAny_call (codeAny_mono (F.run X.A X.stack s H ⟨us, []⟩ us vs Q _ hr hg I.env0 hb' r hsp) fun res s' hq => ?_)
  cases res with
  | error e => exact tk e s' (XE.of_call I (fun _ _ _ h => h) hq)
  | ok fl =>
    cases fl with
    | ret u => exact I.after hq
    | next => exact hq.elim
    | brk => exact hq.elim
    | cont => exact hq.elim
theorem slots_len : ∀ ps : List PArg, (slotsOf ps).length = ps.length
  | [] => rfl
  | .d _ :: r => by simp [slotsOf, slots_len r]
  | .r _ :: r => by simp [slotsOf, slots_len r]
theorem pargs_len {S : Hd} {H : Hp} {vs : List V} {ps : List PArg} {rs : List Addr} (h : PArgsOk K S H vs ps rs) : vs.length = ps.length := by
  induction h with
  | nil => rfl
  | d _ _ ih => simp [ih]
  | r _ _ _ _ ih => simp [ih]
/-- the names at a def's entry -/
theorem pargs_slot {S : Hd} {H : Hp} {vs : List V} {ps : List PArg} {rs : List Addr} (h : PArgsOk K S H vs ps rs) : ∀ (i : Nat) (s : Slot), (slotsOf ps)[i]? = some s →
    ∃ v, vs[i]? = some v ∧ ((∃ d, s = .dat d ∧ Dq K (hid S H) v d) ∨ ∃ ds p us, s = .own ds ∧ v = .ref p ∧ p ∈ rs ∧ S p = true ∧ H p = some (.lst us) ∧ DqA K (hid S H) us ds) := by
  induction h with
  | nil => intro i s e; simp [slotsOf] at e
  | d h1 _ ih =>
    intro i s e
    cases i with
    | zero =>
      simp [slotsOf] at e
      subst e
      exact ⟨_, rfl, .inl ⟨_, rfl, h1⟩⟩
    | succ i =>
      obtain ⟨v, e1, q⟩ := ih i s (by simpa [slotsOf] using e)
      exact ⟨v, by simpa using e1, q⟩
  | r h1 h2 h3 _ ih =>
    intro i s e
    cases i with
    | zero =>
      simp [slotsOf] at e
      subst e
      exact ⟨_, rfl, .inr ⟨_, _, _, rfl, rfl, List.mem_cons_self, h1, h2, h3⟩⟩
    | succ i =>
      obtain ⟨v, e1, q⟩ := ih i s (by simpa [slotsOf] using e)
      refine ⟨v, by simpa using e1, ?_⟩
      rcases q with q | ⟨ds, p, us, z1, z2, z3, z4⟩
      · exact .inl q
      · exact .inr ⟨ds, p, us, z1, z2, List.mem_cons_of_mem _ z3, z4⟩
/-- the places of the handed-over lists, by slot -/
theorem pargs_refs {S : Hd} {H : Hp} {vs : List V} {ps : List PArg} {rs : List Addr} (h : PArgsOk K S H vs ps rs) : ∀ n : Nat, Paired (fun (i : Nat) (q : Addr) => n ≤ i ∧ vs[i - n]? = some (.ref q) ∧ ∃ ds, (slotsOf ps)[i - n]? = some (.own ds)) (refIdx n ps) rs := by
  induction h with
  | nil => exact fun n => .nil
  | d _ _ ih =>
    intro n
    refine Paired.mono ?_ (ih (n + 1))
    rintro i q ⟨h1, h2, ds, h3⟩
    have e : i - n = (i - (n + 1)) + 1 := by omega
    refine ⟨by omega, by rw [e]; simpa using h2, ds, by rw [e]; simpa [slotsOf] using h3⟩
  | r _ _ _ _ ih =>
    intro n
    refine .cons ⟨Nat.le_refl _, by simp, _, by simp [slotsOf]; rfl⟩ (Paired.mono ?_ (ih (n + 1)))
    rintro i q ⟨h1, h2, ds, h3⟩
    have e : i - n = (i - (n + 1)) + 1 := by omega
    refine ⟨by omega, by rw [e]; simpa using h2, ds, by rw [e]; simpa [slotsOf] using h3⟩
theorem start_get {N : List Str} {vs : List V} {i : Nat} {v : V} (h : vs[i]? = some v) : (L2.start N vs)[i]? = some (some v) := by
  unfold L2.start
  have hi := (List.getElem?_eq_some_iff.mp h).1
  rw [List.getElem?_append_left (by simpa using hi), List.getElem?_map, h]
  rfl
theorem paired_get {α β : Type} {F : α → β → Prop} : ∀ {l : List α} {m : List β} {k : Nat} {b : β}, Paired F l m → m[k]? = some b → ∃ a, l[k]? = some a ∧ F a b
  | _, _, _, _, .nil, e => by simp at e
  | _, _, 0, _, .cons h _, e => by
    simp only [List.getElem?_cons_zero, Option.some.injEq] at e
    subst e
    exact ⟨_, rfl, h⟩
  | _, _, k + 1, _, .cons _ t, e => by
    obtain ⟨a, e1, q⟩ := paired_get (k := k) t (by simpa using e)
    exact ⟨a, by simpa using e1, q⟩
theorem own_mem {S : Hd} {H : Hp} {vs : List V} {ps : List PArg} {rs : List Addr} (h : PArgsOk K S H vs ps rs) (k : Nat) (s : Slot) (p : Addr) (e : (slotsOf ps)[k]? = some s) (o : isOwn s = true) (ev : vs[k]? = some (.ref p)) : p ∈ rs := by
  obtain ⟨v, e1, q⟩ := pargs_slot h k s e
  rw [ev] at e1
  cases e1
  rcases q with ⟨d, rfl, _⟩ | ⟨ds, q, us, rfl, z, m, _⟩
  · cases o
  · cases z; exact m
/-- a def's names at its entry -/
theorem entry {S : Hd} {H : Hp} {vs : List V} {ps : List PArg} {rs : List Addr} {fn : Fn} (hd : Dm S H) (pa : PArgsOk K S H vs ps rs) (nd : rs.Nodup) (hl : ps.length ≤ fn.nm.length) :
    EnOk K S H (L2.start fn.nm vs) (slotsOf ps ++ List.replicate (fn.nm.length - ps.length) .no) ∧ ∀ p, Owns (L2.start fn.nm vs) (slotsOf ps ++ List.replicate (fn.nm.length - ps.length) .no) p → p ∈ rs := by
  have lv := pargs_len pa
  have ls := slots_len ps
  have each : ∀ (i : Nat) (s : Slot), (slotsOf ps ++ List.replicate (fn.nm.length - ps.length) .no)[i]? = some s → s = .no ∨ (slotsOf ps)[i]? = some s := fun i s e => by
    by_cases hi : i < (slotsOf ps).length
    · rw [List.getElem?_append_left hi] at e; exact .inr e
    · rw [List.getElem?_append_right (by omega), List.getElem?_replicate] at e
      split at e
      · exact .inl (Option.some.inj e).symm
      · cases e
  have own : ∀ (i : Nat) (s : Slot) (p : Addr), (slotsOf ps)[i]? = some s → isOwn s = true → (L2.start fn.nm vs)[i]? = some (some (.ref p)) → p ∈ rs := fun i s p e o eσ => by
    obtain ⟨v, e1, q⟩ := pargs_slot pa i s e
    rw [start_get e1] at eσ
    cases eσ
    rcases q with ⟨d, rfl, _⟩ | ⟨ds, q, us, rfl, z, m, _⟩
    · cases o
    · cases z; exact m
  have uniq : ∀ {vs : List V} {ps : List PArg} {rs : List Addr}, PArgsOk K S H vs ps rs → rs.Nodup → ∀ (i j : Nat) (si sj : Slot) (p : Addr), i ≠ j → (slotsOf ps)[i]? = some si → (slotsOf ps)[j]? = some sj → isOwn si = true → isOwn sj = true → vs[i]? = some (.ref p) → vs[j]? ≠ some (.ref p) := by
    intro vs ps rs h
    induction h with
    | nil => intro _ i j si sj p _ e; simp [slotsOf] at e
    | d h1 _ ih =>
      intro nd i j si sj p nij ei ej oi oj vi vj
      cases i with
      | zero => simp [slotsOf] at ei; subst ei; cases oi
      | succ i =>
        cases j with
        | zero => simp [slotsOf] at ej; subst ej; cases oj
        | succ j => exact ih nd i j si sj p (by omega) (by simpa [slotsOf] using ei) (by simpa [slotsOf] using ej) oi oj (by simpa using vi) (by simpa using vj)
    | r h1 h2 h3 h4 ih =>
      intro nd i j si sj p nij ei ej oi oj vi vj
      obtain ⟨n1, n2⟩ := List.nodup_cons.mp nd
      cases i with
      | zero =>
        cases j with
        | zero => exact nij rfl
        | succ j =>
          simp only [List.getElem?_cons_zero, Option.some.injEq, V.ref.injEq] at vi
          subst vi
          exact n1 (own_mem h4 j sj _ (by simpa [slotsOf] using ej) oj (by simpa using vj))
      | succ i =>
        cases j with
        | zero =>
          simp only [List.getElem?_cons_zero, Option.some.injEq, V.ref.injEq] at vj
          subst vj
          exact n1 (own_mem h4 i si _ (by simpa [slotsOf] using ei) oi (by simpa using vi))
        | succ j => exact ih n2 i j si sj p (by omega) (by simpa [slotsOf] using ei) (by simpa [slotsOf] using ej) oi oj (by simpa using vi) (by simpa using vj)
  refine ⟨⟨?_, fun i s e => ?_, fun i j si sj p nij ei ej oi oj vi vj => ?_⟩, fun p ⟨i, s, e, o, eσ⟩ => ?_⟩
  · unfold L2.start
    rw [List.length_append, List.length_replicate, List.length_append, List.length_map, List.length_replicate, ls, lv]
  · rcases each i s e with rfl | e
    · trivial
    · obtain ⟨v, e1, q⟩ := pargs_slot pa i s e
      rcases q with ⟨d, rfl, q⟩ | ⟨ds, q, us, rfl, rfl, _, z1, z2, z3⟩
      · exact ⟨v, start_get e1, q⟩
      · exact ⟨q, us, start_get e1, z1, z2, z3⟩
  · rcases each i si ei with rfl | ei
    · cases oi
    · rcases each j sj ej with rfl | ej
      · cases oj
      · obtain ⟨v, e1, _⟩ := pargs_slot pa i si ei
        obtain ⟨v', e1', _⟩ := pargs_slot pa j sj ej
        rw [start_get e1] at vi
        rw [start_get e1'] at vj
        cases vi
        cases vj
        exact uniq pa nd i j si sj p nij ei ej oi oj e1 e1'
  · rcases each i s e with rfl | e
    · cases o
    · exact own i s p e o eσ
/-- the lists that were handed over, at the end -/
theorem outs_ok {S : Hd} {H : Hp} {σ : L2.St} {ρ : En} (en : EnOk K S H σ ρ) : ∀ {is : List Nat} {rs : List Addr} {dss : List (List PyData)}, Paired (fun (i : Nat) (q : Addr) => σ[i]? = some (some (.ref q))) is rs → outs ρ is = some dss → RefsOk K S H rs dss
  | [], _, _, .nil, e => by cases e; exact .nil
  | i :: is, _, dss, .cons h t, e => by
    unfold outs at e
    split at e
    · rename_i ds hi
      cases ho : outs ρ is with
      | none => rw [ho] at e; cases e
      | some r =>
        rw [ho] at e
        cases e
        obtain ⟨p, us, e1, e2, e3, e4⟩ := en.slot i _ hi
        rw [h] at e1
        cases e1
        exact .cons e2 e3 e4 (outs_ok en t ho)
    · cases e
theorem outs_own {σ : L2.St} {ρ : En} : ∀ {is : List Nat} {rs : List Addr} {dss : List (List PyData)}, Paired (fun (i : Nat) (q : Addr) => σ[i]? = some (some (.ref q))) is rs → outs ρ is = some dss → ∀ q ∈ rs, Owns σ ρ q
  | [], _, _, .nil, _ => fun _ z => by cases z
  | i :: is, _, dss, .cons h t, e => fun q hq => by
    unfold outs at e
    split at e
    · rename_i ds hi
      cases ho : outs ρ is with
      | none => rw [ho] at e; cases e
      | some r =>
        rcases List.mem_cons.mp hq with z | z
        · subst z; exact ⟨i, _, hi, rfl, h⟩
        · exact outs_own t ho q z
    · cases e
/-- THE RULE for a def of plain data: its body as a term of rules -/
theorem fn_sound {Γ : Str → Option Fn} {ca : Str → Value} {k : Nat} {g : Str} {fn : Fn} {f : Addr} {x qual : Str} {params : Arguments} {body : List Stmt} {scope : Scope} {dvs : List V} {kws : List (Str × V)} {fd : FuncData}
    (hΓ : Γ g = some fn) (F : FunD K x qual params body scope dvs kws f fd) (S : FnScope fn.nm fn.ps scope)
    (hb : ∀ (cdv : Value) (A : Around) (outer : List Env) (s : Shared) (H : Hp) (E : XK), Room k (A.deeper (envOfC qual scope s.heap.objs.size f cdv)) → A.guards = some [] →
      SB' ⟨runF Γ k, fun cls d _ H => E cls d H, ca⟩ (cxOf (L2.CX P w) P w K mg base fn.nm qual scope f cdv A outer s H E) fn.refs body fn.body) : Fok P w K mg base (k + 1) f fd fn.ps (spO K (runF Γ (k + 1)) ca g) := by
  have hpl : fn.ps.length ≤ fn.nm.length := by have := congrArg List.length S.pre; rw [List.length_take] at this; omega
  have unf : ∀ ps, runF Γ (k + 1) g ps = fnGo (runF Γ k) fn ps := fun ps => by
    show (match Γ g with | some fn => fnGo (runF Γ k) fn ps | none => .bad) = _
    rw [hΓ]
  have cond : ∀ {S H rs Q E} {ps : List PArg}, PostF K ca S H rs Q E (runF Γ (k + 1) g ps) → ps.length = fn.ps.length ∧ refIdx 0 ps = fn.refs := fun {S H rs Q E ps} h => by
    rw [unf] at h
    unfold fnGo at h
    by_cases hc : ps.length = fn.ps.length ∧ refIdx 0 ps = fn.refs
    · exact hc
    · rw [if_neg hc] at h; exact h.elim
  refine fok_of F S (fun vs H Q E ⟨S', ps, rs, _, pa, _, h⟩ => ?_) fun cdv A outer s H vs Q E hr hgd ⟨S', ps, rs, hd, pa, nd, h⟩ => ⟨WB _ body, pss_wb, ?_⟩
  · rw [pargs_len pa]; exact (cond h).1
  · obtain ⟨c1, c2⟩ := cond h
    obtain ⟨en, own⟩ := entry (fn := fn) hd pa nd (by rw [c1]; exact hpl)
    refine hb cdv A outer s H E hr hgd _ S' (L2.start fn.nm vs) H _ hd en ?_
    rw [unf] at h
    unfold fnGo at h
    rw [if_pos ⟨c1, c2⟩] at h
    have pr : ∀ {σ' : L2.St}, (∀ j ∈ fn.refs, σ'[j]? = (L2.start fn.nm vs)[j]?) → Paired (fun (i : Nat) (q : Addr) => σ'[i]? = some (some (.ref q))) fn.refs rs := fun {σ'} hσ => by
      have q := pargs_refs pa 0
      rw [c2] at q
      have all : ∀ {is : List Nat} {qs : List Addr}, (∀ j ∈ is, σ'[j]? = (L2.start fn.nm vs)[j]?) → Paired (fun (i : Nat) (q : Addr) => 0 ≤ i ∧ vs[i - 0]? = some (.ref q) ∧ ∃ ds, (slotsOf ps)[i - 0]? = some (.own ds)) is qs → Paired (fun (i : Nat) (q : Addr) => σ'[i]? = some (some (.ref q))) is qs := by
        intro is qs hi hp
        induction hp with
        | nil => exact .nil
        | cons h1 _ ih =>
          refine .cons ?_ (ih fun j hj => hi j (List.mem_cons_of_mem _ hj))
          rw [hi _ List.mem_cons_self]
          exact start_get (by simpa using h1.2.1)
      exact all hσ q
    show PostS _ _ _ _ _ _ _ _ (exec (runF Γ k) fn.refs fn.body (slotsOf ps ++ List.replicate (fn.nm.length - ps.length) .no))
    cases hx : exec (runF Γ k) fn.refs fn.body (slotsOf ps ++ List.replicate (fn.nm.length - ps.length) .no) with
    | bad => rw [hx] at h; exact h
    | exc z ρ' =>
      rw [hx] at h
      intro d σ' S2 H2 f2 en2 sb2 xo
      cases ho : outs ρ' fn.refs with
      | none => simp only [ho] at h; exact h.elim
      | some dss =>
        simp only [ho] at h
        exact h d S2 H2 (f2.imp own) (outs_ok en2 (pr sb2.prot) ho) xo
    | ok o =>
      rw [hx] at h
      cases o with
      | next ρ' =>
        intro σ' S2 H2 f2 en2 sb2
        cases ho : outs ρ' fn.refs with
        | none => simp only [ho] at h; exact h.elim
        | some dss =>
          simp only [ho] at h
          exact h _ S2 H2 (f2.imp own) (outs_ok en2 (pr sb2.prot) ho) .non
      | ret v ρ' =>
        intro u σ' S2 H2 f2 en2 sb2 vr
        cases ho : outs ρ' fn.refs with
        | none => simp only [ho] at h; exact h.elim
        | some dss =>
          simp only [ho] at h
          refine h u S2 H2 (f2.imp own) (outs_ok en2 (pr sb2.prot) ho) ?_
          cases v with
          | dat d => exact vr
          | new ds =>
            obtain ⟨p, us, e1, e2, e3, e4, e5, e6⟩ := vr
            refine ⟨p, us, e1, e2, e3, e4, ?_⟩
            rcases e6 with z | z
            · exact absurd (outs_own (pr sb2.prot) ho p (own p z)) e5
            · exact z
      | brk ρ' => exact (show False from h).elim
      | cont ρ' => exact (show False from h).elim
end
end Iv
end

section
set_option Elab.async false
set_option linter.all false
set_option maxRecDepth 100000
set_option maxHeartbeats 4000000
namespace Iv
open PySem PySem.Spec PyProof.Rows L2

/-! ### short forms -/
section
variable {X : Cx}
theorem blt_of {x : Str} {u : Value} (bt : bootBuiltins x = some u) (nn : x ≠ "__name__") (nd : (x == ("__debug__" : Str)) = false) (gl : Gl X x) (mg : X.mg x = none) : Blt X x u := ⟨gl, mg, bt, nn, nd⟩
theorem b_len (gl : Gl X "len") (mg : X.mg "len" = none) : Blt X "len" (b1V .len) := blt_of (by decide +kernel) (by decide) (by decide) gl mg
theorem b_abs (gl : Gl X "abs") (mg : X.mg "abs" = none) : Blt X "abs" (b1V .abs) := blt_of (by decide +kernel) (by decide) (by decide) gl mg
theorem b_int (gl : Gl X "int") (mg : X.mg "int" = none) : Blt X "int" (b1V .int) := blt_of (by decide +kernel) (by decide) (by decide) gl mg
theorem b_all (gl : Gl X "all") (mg : X.mg "all" = none) : Blt X "all" (b1V .all) := blt_of (by decide +kernel) (by decide) (by decide) gl mg
theorem b_any (gl : Gl X "any") (mg : X.mg "any" = none) : Blt X "any" (b1V .any) := blt_of (by decide +kernel) (by decide) (by decide) gl mg
theorem b_tuple (gl : Gl X "tuple") (mg : X.mg "tuple" = none) : Blt X "tuple" (b1V .tuple) := blt_of (by decide +kernel) (by decide) (by decide) gl mg
theorem b_list (gl : Gl X "list") (mg : X.mg "list" = none) : Blt X "list" (b1V .list) := blt_of (by decide +kernel) (by decide) (by decide) gl mg
theorem b_repr (gl : Gl X "repr") (mg : X.mg "repr" = none) : Blt X "repr" (b1V .repr) := blt_of (by decide +kernel) (by decide) (by decide) gl mg
theorem b_sorted (gl : Gl X "sorted") (mg : X.mg "sorted" = none) : Blt X "sorted" (b1V .sorted) := blt_of (by decide +kernel) (by decide) (by decide) gl mg
theorem b_str (gl : Gl X "str") (mg : X.mg "str" = none) : Blt X "str" (b1V .str) := blt_of (by decide +kernel) (by decide) (by decide) gl mg
theorem b_min (gl : Gl X "min") (mg : X.mg "min" = none) : Blt X "min" (.builtin "min") := blt_of (by decide +kernel) (by decide) (by decide) gl mg
theorem b_max (gl : Gl X "max") (mg : X.mg "max" = none) : Blt X "max" (.builtin "max") := blt_of (by decide +kernel) (by decide) (by decide) gl mg
theorem b_isi (gl : Gl X "isinstance") (mg : X.mg "isinstance" = none) : Blt X "isinstance" (.builtin "isinstance") := blt_of (by decide +kernel) (by decide) (by decide) gl mg
theorem t_int (gl : Gl X "int") (mg : X.mg "int" = none) : Blt X "int" (.type (tyN .int)) := b_int gl mg
theorem t_bool (gl : Gl X "bool") (mg : X.mg "bool" = none) : Blt X "bool" (.type (tyN .bool)) := blt_of (by decide +kernel) (by decide) (by decide) gl mg
theorem t_str (gl : Gl X "str") (mg : X.mg "str" = none) : Blt X "str" (.type (tyN .str)) := blt_of (by decide +kernel) (by decide) (by decide) gl mg
theorem t_list (gl : Gl X "list") (mg : X.mg "list" = none) : Blt X "list" (.type (tyN .list)) := b_list gl mg
theorem t_tuple (gl : Gl X "tuple") (mg : X.mg "tuple" = none) : Blt X "tuple" (.type (tyN .tuple)) := b_tuple gl mg
end
/-- what is known of the def f, at the level k -/
structure CO (P : Program) (w : World) (K : PySem.W.Frag) (mg : Str → Option Value) (base : Heap) (k : Nat) (cl : Orc) (ca : Str → Value) (f : Str) (kp : List (List Str × List Nat)) : Prop where
  ex : ∃ fa fd ps, Fok P w K mg base k fa fd ps (spO K cl ca f) ∧ mg f = some (.ref fa) ∧ PySem.W.keepIn K (.ref fa) = true ∧ Binds K fd ps [] ∧ ∀ q ∈ kp, KwOk K fd ps q.1 q.2
theorem CO.call {X : Cx} {c : Cc} {k : Nat} {f : Str} {kp : List (List Str × List Nat)} (h : CO X.prog X.w X.K X.mg X.base k c.cl c.ca f kp) (hr : Room k X.A) (hg : X.A.guards = some []) (tk : Takes X c.W) : CallOk c X f := by
  obtain ⟨fa, fd, ps, F, hm, hk, hb, _⟩ := h.ex
  exact call_of F hr hg hm hk hb tk
theorem vals_get : ∀ {vs : List V} {us : List Value} {i : Nat} {v : V}, Vals vs us → vs[i]? = some v → ∃ u, us[i]? = some u ∧ RelV v u
  | _, _, _, _, .nil, e => by simp at e
  | _, _, 0, _, .cons h _, e => by
    simp only [List.getElem?_cons_zero, Option.some.injEq] at e
    subst e
    exact ⟨_, rfl, h⟩
  | _, _, i + 1, _, .cons _ t, e => by
    obtain ⟨u, e1, q⟩ := vals_get (i := i) t (by simpa using e)
    exact ⟨u, by simpa using e1, q⟩
theorem vals_perm {vs : List V} {us : List Value} (r : Vals vs us) : ∀ perm : List Nat, Vals (permL perm vs) (permL perm us)
  | [] => .nil
  | i :: perm => by
    have ih := vals_perm r perm
    unfold permL at ih ⊢
    rw [List.filterMap_cons, List.filterMap_cons]
    cases hv : vs[i]? with
    | none =>
      have hu : us[i]? = none := by
        rw [List.getElem?_eq_none_iff] at hv ⊢
        rw [← r.length]; exact hv
      rw [hu]
      exact ih
    | some v =>
      obtain ⟨u, e1, q⟩ := vals_get r hv
      rw [e1]
      exact .cons q ih
theorem CO.callK {X : Cx} {c : Cc} {k : Nat} {f : Str} {kp : List (List Str × List Nat)} {ks : List Str} {perm : List Nat} (h : CO X.prog X.w X.K X.mg X.base k c.cl c.ca f kp) (hm' : (ks, perm) ∈ kp) (hr : Room k X.A) (hg : X.A.guards = some []) (tk : Takes X c.W) : CallOkK c X f ks perm := by
  obtain ⟨fa, fd, ps, F, hm, hk, hb, hkw⟩ := h.ex
  refine ⟨fa, hm, hk, fun σ vs H Q hl hsp pins s us I r => ?_⟩
  have hb' := hkw _ hm' s us I.kIn (by rw [← r.length]; exact hl)
  refine wpAny_call (codeAny_mono (F.run X.A X.stack s H ⟨[], ks.zip us⟩ (permL perm us) (permL perm vs) Q _ hr hg I.env0 hb' (vals_perm r perm) hsp) fun res s' hq => ?_)
  cases res with
  | error e => exact tk e s' (XE.of_call I (fun _ _ _ h => h) hq)
  | ok fl =>
    cases fl with
    | ret u => exact I.after hq
    | next => exact hq.elim
    | brk => exact hq.elim
    | cont => exact hq.elim
section
variable {c : Cc} {X : Cx} {P : List Nat} {st : Stmt} {tgE iter elt e e2 : Expr} {ifs : List Expr} {scope : Scope} {k : Src} {src test x y : E} {tg : Tg} {pos spos : Pos} {own : List (Str × Nat)}
theorem sx_comp (hc : X.calm = true) (hN : X.N.Nodup) (ok : BlkOk X.N X.env.scope scope own) (hv : own.map (·.2) = tg.slots) (hi : SI c X k tgE iter src)
    (hg : ∀ (s : Shared) (H : Hp) (C : Addr) (cl : List (Str × Addr)) (fp : List Addr), SG (X.blk s H scope (compEnvC scope cl C X.env) fp) tgE tg)
    (ht : ∀ (s : Shared) (H : Hp) (C : Addr) (cl : List (Str × Addr)) (fp : List Addr), STs (calm0 c) (X.blk s H scope (compEnvC scope cl C X.env) fp) ifs test)
    (he : ∀ (s : Shared) (H : Hp) (C : Addr) (cl : List (Str × Addr)) (fp : List Addr), SX (calm0 c) (X.blk s H scope (compEnvC scope cl C X.env) fp) elt x) (hs : ∀ z, foldedSetIterable iter X.env z = pure z) :
    SX c X (.ListComp elt [⟨tgE, iter, ifs, 0⟩] scope pos) (.comp k src tg test x) := by
  refine sx_of (fun ρ S σ H Q hd en hp => ?_) rfl
  have q := lc_sound (scope := scope) hi (fun Y hY => by obtain ⟨s, H, C, cl, fp, rfl⟩ := hY; exact hg s H C cl fp) (fun Y hY => by obtain ⟨s, H, C, cl, fp, rfl⟩ := hY; exact ht s H C cl fp) (fun Y hY => by obtain ⟨s, H, C, cl, fp, rfl⟩ := hY; exact he s H C cl fp) hd en hp
  rw [← hv] at q
  refine we_of (pe_lc hc hN pi_wi ok (fun s H C cl fp => ?_) (fun s H C cl fp => ?_) (fun s H C cl fp => ?_) hs) q
  · exact ⟨fun pins s' σ H' v u Q I r h => h _ ⟨s, H, C, cl, fp, rfl⟩ pins s' u I r⟩
  · exact ⟨fun pins s' σ H' Q I h => h _ ⟨s, H, C, cl, fp, rfl⟩ pins s' I⟩
  · exact ⟨fun pins s' σ H' Q I h => h _ ⟨s, H, C, cl, fp, rfl⟩ pins s' I⟩
/-- y = [..], y a plain local -/
theorem ss_setLc {i : Nat} {y : Str} {py : Pos} (hc : X.calm = true) (hN : X.N.Nodup) (hy : X.N[i]? = some y) (hyl : X.env.scope.names.lookup y = some .local) (hsw : swapsWith (.ListComp elt [⟨tgE, iter, ifs, 0⟩] scope pos) (some (.Name y py)) spos.line X.env = pure true)
    (ok : BlkOk X.N X.env.scope scope own) (hv : own.map (·.2) = tg.slots) (hi : SI c X k tgE iter src)
    (hg : ∀ (s : Shared) (H : Hp) (C : Addr) (cl : List (Str × Addr)) (fp : List Addr), SG (X.blk s H scope (compEnvC scope cl C X.env) fp) tgE tg)
    (ht : ∀ (s : Shared) (H : Hp) (C : Addr) (cl : List (Str × Addr)) (fp : List Addr), STs (calm0 c) (X.blk s H scope (compEnvC scope cl C X.env) fp) ifs test)
    (he : ∀ (s : Shared) (H : Hp) (C : Addr) (cl : List (Str × Addr)) (fp : List Addr), SX (calm0 c) (X.blk s H scope (compEnvC scope cl C X.env) fp) elt x) (hs : ∀ z, foldedSetIterable iter X.env z = pure z) :
    SS c X P (.Assign [.Name y py] (.ListComp elt [⟨tgE, iter, ifs, 0⟩] scope pos) spos) (.set i (.comp k src tg test x)) := by
  refine ss_set (T := tLc (WI X tgE iter) (gB X scope tgE) (tB' X scope ifs) (eB X scope elt) (own.map (·.2))) (ps_setLc hc hN hy hyl hsw pi_wi ok (fun s H C cl fp => ?_) (fun s H C cl fp => ?_) (fun s H C cl fp => ?_) hs) fun ρ S σ H Q hd en hp => ?_
  · exact ⟨fun pins s' σ H' v u Q I r h => h _ ⟨s, H, C, cl, fp, rfl⟩ pins s' u I r⟩
  · exact ⟨fun pins s' σ H' Q I h => h _ ⟨s, H, C, cl, fp, rfl⟩ pins s' I⟩
  · exact ⟨fun pins s' σ H' Q I h => h _ ⟨s, H, C, cl, fp, rfl⟩ pins s' I⟩
  · have q := lc_sound (scope := scope) hi (fun Y hY => by obtain ⟨s, H, C, cl, fp, rfl⟩ := hY; exact hg s H C cl fp) (fun Y hY => by obtain ⟨s, H, C, cl, fp, rfl⟩ := hY; exact ht s H C cl fp) (fun Y hY => by obtain ⟨s, H, C, cl, fp, rfl⟩ := hY; exact he s H C cl fp) hd en hp
    rw [← hv] at q
    exact q
/-- a, b = x, y by way of a tuple (a name of them is captured) -/
theorem ss_par2T {i j : Nat} (hps : PS X st (tAsg (tTup (tCons (WE X e) (tCons (WE X e2) tNil))) (gTup X.K 2 (gCons (gName i) (gCons (gName j) gNil))))) (hij : i ≠ j) (hx : SX c X e x) (hy : SX c X e2 y) : SS c X P st (.par2 i j x y) := by
  intro ρ S σ H D hd en hp
  have hp : PostS c X.K P σ ρ S H D (if i ∈ P ∨ j ∈ P then .bad else bndO (ev c.cl x ρ) fun u ρ1 => bndO (ev c.cl y ρ1) fun v ρ2 => .ok (.next ((ρ2.set i u.slot).set j v.slot))) := hp
  by_cases hi : i ∈ P ∨ j ∈ P
  · rw [if_pos hi] at hp; exact hp.elim
  · rw [if_neg hi] at hp
    refine ws_of hps (hx.se ρ S σ H _ hd en (postS_bnd0 hp fun u ρ1 w1 S1 H1 h1 f1 en1 s1 g1 => ?_))
    refine hy.se ρ1 S1 σ H1 _ f1.dm en1 (postS_bndX f1 s1 h1 fun v ρ2 w2 S2 H2 h2 f2 en2 s2 g2 => ?_)
    refine ⟨by show 2 ≤ sizeLine; decide, fun q hq => ⟨q, _, rfl, SqT.of upd_same, rfl, w1, _, rfl, w2, _, rfl, rfl, ?_⟩⟩
    have fq : Fr S2 H2 (fun _ => False) S2 (upd H2 q (.tup [w1, w2])) := Fr.alloc f2.dm hq
    have f2' : Fr S1 H1 (Owns σ ρ1) S2 (upd H2 q (.tup [w1, w2])) := f2.trans (fq.imp fun _ w => w.elim (C := False)) fun _ w => w.elim
    have en2' := en2.step0 fq
    have g2q : VOk X.K H1 S2 (upd H2 q (.tup [w1, w2])) σ ρ2 w2 v := vok_step fq (fun _ z => z.elim) Sub.refl g2
    have g1' : VOk X.K H S2 (upd H2 q (.tup [w1, w2])) σ ρ2 w1 u := vok_step f2' (fun _ z => z) s2 g1
    obtain ⟨a1, a2, a3⟩ := en_val (i := i) en2' g1'
    have g2' : VOk X.K H1 S2 (upd H2 q (.tup [w1, w2])) (σ.set i (some w1)) (ρ2.set i u.slot) w2 v := by
      cases v with
      | dat d => exact g2q
      | new ds =>
        obtain ⟨p, vs, e1, e2, e3, e4, e5, e6⟩ := g2q
        refine ⟨p, vs, e1, e2, e3, e4, fun z => ?_, e6⟩
        rcases a2 p z with w | ⟨w, ew, ds', eu⟩
        · exact e5 w
        · cases eu
          obtain ⟨p', vs', z1, _, z3, _⟩ := g1
          rw [ew] at z1
          cases z1
          rw [e6] at z3
          cases z3
    obtain ⟨b1, b2, b3⟩ := en_val (i := j) a1 g2'
    refine h2 _ S2 _ (f1.trans f2' fun p z => .inl (s1 p z)) b1 ⟨fun p z => ?_, fun k hk => ?_⟩
    · rcases b2 p z with w | ⟨w, _⟩
      · rcases a2 p w with w | ⟨w, _⟩
        · exact .inl (s1 p (s2 p w))
        · exact .inr w
      · exact .inr (f1.fresh w)
    · rw [b3.2 k fun z => hi (.inr (by rw [List.mem_singleton.mp z] at hk; exact hk)), a3.2 k fun z => hi (.inl (by rw [List.mem_singleton.mp z] at hk; exact hk))]
end
theorem units65 {k : Nat} {A : Around} (r : Room k A) : A.units + 65 < cLine := by have := r.un; omega
end Iv
end

section
set_option Elab.async false
set_option linter.all false
set_option maxRecDepth 100000
set_option maxHeartbeats 4000000
namespace Iv
open PySem PySem.Spec PyProof.Rows L2
/-! ### exceptions -/
section
variable {c : Cc} {X : Cx} {P : List Nat} {st : Stmt} {e a tyE : Expr} {x ia : E} {pos p apos : Pos} {nm f : Str} {bmB : List Value} {C fI : Addr}
/-- the argument of an exception's making -/
theorem ta_mono : ∀ σ H (Q Q' : List V → Hp → Prop), (∀ vs H', Q vs H' → Q' vs H') → tCons (WE X a) tNil σ H Q → tCons (WE X a) tNil σ H Q' := fun σ H Q Q' h q => we_mono q fun v H' z => h _ _ z
theorem not_hid {S : Hd} {H : Hp} {d : Addr} (hd : Dm S H) (hn : H d = none) : S d = false := by
  cases hs : S d with
  | false => rfl
  | true => exact absurd hn (hd d hs)
/-- raise X(e) -/
theorem ss_raise {k : Nat} (T : PySem.Ivx.XcT X.K X.mg nm f bmB C fI) (hca : c.ca nm = .ref C) (hc : X.calm = true) (tk : Takes X c.W) (hr : Room k X.A) (hx : SX c X a x) (hg : Gl X nm) (hdb : (nm == ("__debug__" : Str)) = false)
    (he : starEach (a :: []) X.env = (false, eval a X.env) :: starEach [] X.env) (hpl : (backTo p (starEach [] X.env)).any (·.1) = false) :
    SS c X P (.Raise (some (.Call (.Name nm apos) [a] [] p)) none pos) (.raise nm f x) := by
  intro ρ S σ H D hd en hp
  refine ws_of (ps_raise hc tk (pmk_x T hr (pa_cons pe_we pa_nil he) ta_mono hg hdb he hpl)) ?_
  refine hx.se.sd ρ S σ H _ hd en (post_map (f := Val.d) (postS_bnd hp fun v ρ1 u S1 H1 h1 f1 en1 s1 g1 => ?_))
  refine ⟨u, rfl, fun d hn => ?_⟩
  have fa : Fr S1 H1 (fun _ => False) S1 (upd H1 d (.xd [(f, u)])) := Fr.alloc f1.dm hn
  have w := h1 d σ S1 (upd H1 d (.xd [(f, u)])) (fa.imp fun _ z => z.elim) (en1.step0 fa) .refl ⟨[(f, u)], upd_same, not_hid f1.dm hn, rfl, .cons (Dq.mono fa.hid _ _ g1) .nil⟩
  rw [← hca]
  exact w
/-- X(e), a value -/
theorem sx_mkx {k : Nat} (T : PySem.Ivx.XcT X.K X.mg nm f bmB C fI) (hC : C = He.ga X.K nm) (hr : Room k X.A) (hx : SX c X a x) (hg : Gl X nm) (hdb : (nm == ("__debug__" : Str)) = false)
    (he : starEach (a :: []) X.env = (false, eval a X.env) :: starEach [] X.env) (hpl : (backTo p (starEach [] X.env)).any (·.1) = false) :
    SX c X (.Call (.Name nm apos) [a] [] p) (.mkx nm f x) := by
  refine sx_of (fun ρ S σ H Q hd en hp => ?_) rfl
  refine we_of (pe_mkx T hr (pa_cons pe_we pa_nil he) ta_mono hg hdb he hpl) ?_
  refine hx.se.sd ρ S σ H _ hd en (post_map (f := Val.d) (post_bnd hp fun v ρ1 h1 u S1 H1 f1 en1 s1 g1 => ?_))
  have h1 := post_shiftE f1 s1 h1
  refine ⟨u, rfl, fun d b hn hb ne => ?_⟩
  have fa : Fr S1 H1 (fun _ => False) S1 (upd H1 d (.xd [(f, u)])) := Fr.alloc f1.dm hn
  have hb' : upd H1 d (.xd [(f, u)]) b = none := by rw [upd_ne ne.symm]; exact hb
  have fb : Fr S1 (upd H1 d (.xd [(f, u)])) (fun _ => False) S1 (upd (upd H1 d (.xd [(f, u)])) b (exv (.ref C) (some d) b)) := Fr.alloc fa.dm hb'
  have fab := fa.trans fb fun _ z => z.elim
  refine h1 _ S1 _ (fab.imp fun _ z => z.elim) (en1.step0 fab) Sub.refl ?_
  refine .exc (dd := d) (v := u) (hid_some (not_hid f1.dm hb) (by rw [upd_same, hC])) (hid_some (not_hid f1.dm hn) ?_) (Dq.mono fab.hid _ _ g1)
  rw [upd_ne ne, upd_same]
/-- what is told of the classes with a field f -/
def AttOk (K : PySem.W.Frag) (mg : Str → Option Value) (f : Str) (all : List Str) : Prop := ∀ nm ∈ all, ∃ fI bmB, PySem.Ivx.XcT K mg nm f bmB (He.ga K nm) fI
/-- e.f; all: the classes that may be met -/
theorem sx_att {all : List Str} (hx : SX c X a x) (T : AttOk X.K X.mg f all) (hb : attributeBase a f X.env (eval a X.env) = eval a X.env) : SX c X (.Attribute a f pos) (.att x f all) := by
  refine sx_of (fun ρ S σ H Q hd en hp => ?_) rfl
  refine we_of (pe_xat pe_we hb) ?_
  refine hx.sv ρ S σ H _ hd en (post_bnd hp fun d ρ1 h1 u S1 H1 f1 en1 s1 g1 => ?_)
  have h1 := post_shiftE f1 s1 h1
  obtain ⟨val, e1, q⟩ := prim f1.dm en1 h1
  have D := (g1.now f1.dm en1)
  unfold attD at e1
  split at e1
  · split at e1
    · rename_i hgf
      obtain ⟨rfl, hm⟩ := hgf
      cases e1
      rcases D with D | ⟨_, _, _, _, z, _⟩
      · cases D with
        | exc h2 h3 h4 =>
          obtain ⟨fI, bmB, T⟩ := T _ hm
          exact ⟨_, _, _, _, _, fI, _, bmB, rfl, T, (hid_of h2).2, (hid_of h3).2, by simp [List.lookup], q _ S1 H1 (Fr.refl f1.dm) h4⟩
      · cases z
    · cases e1
  · cases e1
/-- what is told of a class cv beside the own classes all: those of yes are of it -/
structure IsxOk (K : PySem.W.Frag) (mg : Str → Option Value) (cvs : List Value) (yes all : List Str) : Prop where
  kit : ∀ nm ∈ all, PySem.W.kitAny K (.ref (He.ga K nm)) cvs = some (decide (nm ∈ yes))
  xc : ∀ nm ∈ all, ∃ f fI bmB, PySem.Ivx.XcT K mg nm f bmB (He.ga K nm) fI
theorem cls_pe {n : Str} {cv : Value} {p2 : Pos} (hc : Names X n cv) (hv : ∃ v, ClsV v cv) : ∃ v, ClsV v cv ∧ PE X (.Name n p2) (tC v) := by
  obtain ⟨v, hv⟩ := hv
  refine ⟨v, hv, ⟨fun pins s σ H Q I h => name_ev rfl hc I ⟨v, H, I, ?_, h⟩⟩⟩
  cases hv with
  | ty n => rfl
  | own C => rfl
theorem kit_single {K : PySem.W.Frag} {t cv : Value} {b : Bool} (h : PySem.W.kitAny K t [cv] = some b) : PySem.W.kitOne K t cv = some b := by
  have h' : (match PySem.W.kitOne K t cv with
    | some true => some true
    | some false => PySem.W.kitAny K t []
    | none => none) = some b := h
  cases hk : PySem.W.kitOne K t cv with
  | none => rw [hk] at h'; cases h'
  | some b' => rw [hk] at h'; cases b' <;> exact h'
/-- isinstance(e, c) -/
theorem sx_isx1 {cv : Value} {yes all : List Str} {fn n : Str} {p2 : Pos} (bl : Blt X fn (.builtin "isinstance")) (hc : Names X n cv) (hv : ∃ v, ClsV v cv) (T : IsxOk X.K X.mg [cv] yes all) (hx : SX c X a x) (he : starEach [a, .Name n p2] X.env = [(false, eval a X.env), (false, eval (.Name n p2) X.env)]) :
    SX c X (.Call (.Name fn p) [a, .Name n p2] [] pos) (.isx x yes all) := by
  refine sx_of (fun ρ S σ H Q hd en hp => ?_) rfl
  obtain ⟨v, hv, hpe⟩ := cls_pe (p2 := p2) hc hv
  refine we_of (call_star bl (.inl ⟨_, rfl⟩) (pa_cons pe_we (pa_cons hpe pa_nil rfl) he) he rfl) ?_
  refine hx.sv ρ S σ H _ hd en (post_bnd hp fun d ρ1 h1 u S1 H1 f1 en1 s1 g1 => ?_)
  have h1 := post_shiftE f1 s1 h1
  obtain ⟨r, e1, q⟩ := primB f1.dm en1 h1
  have D := (g1.now f1.dm en1)
  unfold isxD at e1
  split at e1
  · split at e1
    · rename_i hm
      cases e1
      rcases D with D | ⟨_, _, _, _, z, _⟩
      · cases D with
        | exc h2 h3 h4 =>
          obtain ⟨f, fI, bmB, T'⟩ := T.xc _ hm
          have k1 := T.kit _ hm
          have k2 := kit_single k1
          exact cw_of call_isX ⟨_, _, _, _, f, fI, _, bmB, v, cv, _, rfl, T', (hid_of h2).2, (hid_of h3).2, fun w hw => hv.eq hw, k2, q⟩
      · cases z
    · cases e1
  · cases e1
/-- names of classes, own or built in, in a tuple -/
inductive ClsNs (X : Cx) : List Expr → List Value → Prop
  | nil : ClsNs X [] []
  | cons {n : Str} {cv : Value} {p2 : Pos} {es : List Expr} {cs : List Value} (hc : Names X n cv) (hv : ∃ v, ClsV v cv) (h : ClsNs X es cs) : ClsNs X (.Name n p2 :: es) (cv :: cs)
theorem ClsNs.pa {es : List Expr} {cs : List Value} (h : ClsNs X es cs) : ∃ vs, Paired ClsV vs cs ∧ PA X es (fun _ H Q => Q vs H) := by
  induction h with
  | nil => exact ⟨[], .nil, pa_nil⟩
  | @cons n cv p2 es cs hc hv _ ih =>
    obtain ⟨v, hv, hpe⟩ := cls_pe (p2 := p2) hc hv
    obtain ⟨vs, h1, h2⟩ := ih
    exact ⟨v :: vs, .cons hv h1, pa_cons hpe h2 rfl⟩
/-- isinstance(e, (c, ..)) -/
theorem sx_isxT {es : List Expr} {cvs : List Value} {yes all : List Str} {fn : Str} {k : Nat} {p2 : Pos} (bl : Blt X fn (.builtin "isinstance")) (hc : ClsNs X es cvs) (hl : cvs.length ≤ 1000) (T : IsxOk X.K X.mg cvs yes all) (hx : SX c X a x) (he : starEach [a, .Tuple es k p2] X.env = [(false, eval a X.env), (false, eval (.Tuple es k p2) X.env)]) :
    SX c X (.Call (.Name fn p) [a, .Tuple es k p2] [] pos) (.isx x yes all) := by
  refine sx_of (fun ρ S σ H Q hd en hp => ?_) rfl
  obtain ⟨vs, hv, hpa⟩ := hc.pa
  refine we_of (call_star bl (.inl ⟨_, rfl⟩) (pa_cons pe_we (pa_cons (pe_tup hpa) pa_nil rfl) he) he rfl) ?_
  refine hx.sv ρ S σ H _ hd en (post_bnd hp fun d ρ1 h1 u S1 H1 f1 en1 s1 g1 => ?_)
  have h1 := post_shiftE f1 s1 h1
  have hvl : vs.length = cvs.length := hv.length
  refine ⟨by rw [hvl]; exact Nat.le_trans hl (by decide), fun q hq => ?_⟩
  have fa : Fr S1 H1 (fun _ => False) S1 (upd H1 q (.tup vs)) := Fr.alloc f1.dm hq
  have h1 := post_shiftE (fa.imp fun _ z => z.elim) Sub.refl h1
  have en1' := en1.step0 fa
  obtain ⟨r, e1, q'⟩ := primB fa.dm en1' h1
  have D := (g1.now f1.dm en1)
  unfold isxD at e1
  split at e1
  · split at e1
    · rename_i hm
      cases e1
      rcases D with D | ⟨_, _, _, _, z, _⟩
      · cases D with
        | exc h2 h3 h4 =>
          obtain ⟨f, fI, bmB, T'⟩ := T.xc _ hm
          have z2 := (hid_of h2).2
          have z3 := (hid_of h3).2
          exact cw_of call_isXT ⟨_, _, _, q, _, f, fI, _, bmB, vs, cvs, _, rfl, T', by rw [upd_ne (ne_of_none z2 hq)]; exact z2, by rw [upd_ne (ne_of_none z3 hq)]; exact z3, upd_same, hv, T.kit _ hm, q'⟩
      · cases z
    · cases e1
  · cases e1
/-- f(e), e a new list that nobody else has -/
theorem sx_callf {g : Str} {y : E} (hf : CallOk c X g) (hg : Gl X g) (hdb : (g == ("__debug__" : Str)) = false) (ha : SX c X a y) (he : starEach [a] X.env = [(false, eval a X.env)]) (hpl : (backTo pos (starEach [] X.env)).any (·.1) = false) :
    SX c X (.Call (.Name g p) [a] [] pos) (.callf g y) := by
  refine sx_of (fun ρ S σ H Q hd en hp => ?_) rfl
  obtain ⟨fa, hm, hk, run⟩ := hf
  intro pins s I
  have w : WA X [a] σ H (fun vs H1 => spO X.K c.cl c.ca g vs H1 Q (fun cls d H' => c.W cls d σ H')) := by
    refine wa_of (pa_cons pe_we pa_nil he) ?_
    refine ha.se ρ S σ H _ hd en (post_bnd hp fun v ρ1 h1 u S1 H1 f1 en1 s1 g1 => ?_)
    cases v with
    | dat d => exact h1.elim
    | new ds =>
      obtain ⟨q, us, rfl, e2, e3, e4, e5, e6⟩ := g1
      refine ⟨S1, [.r ds], [q], f1.dm, .r e2 e3 e4 .nil, by simp, ?_⟩
      have own : ∀ {S' H'}, Fr S1 H1 (fun a => a ∈ [q]) S' H' → Fr S H (Owns σ ρ) S' H' := fun f2 => f1.trans f2 fun b z => .inr (by rw [List.mem_singleton.mp z]; exact e6)
      have ens : ∀ {S' H'}, Fr S1 H1 (fun a => a ∈ [q]) S' H' → EnOk X.K S' H' σ ρ1 := fun f2 => en1.step f2 fun b z w => e5 (by rw [← List.mem_singleton.mp w]; exact z)
      cases hr : c.cl g [.r ds] with
      | bad => simp only [hr] at h1; exact h1.elim
      | ok r =>
        obtain ⟨val, dss⟩ := r
        simp only [hr] at h1
        match dss, h1 with
        | [_], h1 =>
          intro v S' H' f2 _ pv
          refine h1 v S' H' (own f2) (ens f2) s1 ?_
          cases val with
          | dat d => exact pv
          | new ds' =>
            obtain ⟨p', vs', z1, z2, z3, z4, z5⟩ := pv
            refine ⟨p', vs', z1, z2, z3, z4, fun z => ?_, f1.fresh z5⟩
            obtain ⟨i, sl, q1, q2, q3⟩ := z
            have q4 := en1.slot i sl q1
            cases sl with
            | no => cases q2
            | dat _ => cases q2
            | own _ =>
              obtain ⟨p'', _, q5, _, q6, _⟩ := q4
              rw [q3] at q5; cases q5
              rw [z5] at q6; cases q6
            | lock _ =>
              obtain ⟨p'', _, q5, _, q6, _⟩ := q4
              rw [q3] at q5; cases q5
              rw [z5] at q6; cases q6
        | [], h1 => exact h1.elim
        | _ :: _ :: _, h1 => exact h1.elim
      | exc z dss =>
        simp only [hr] at h1
        match dss, h1 with
        | [_], h1 =>
          intro d S' H' f2 _ xo
          exact h1 d S' H' (own f2) (ens f2) s1 xo
        | [], h1 => exact h1.elim
        | _ :: _ :: _, h1 => exact h1.elim
  refine wpAny_Call_Name_kw (ld_glob I hg hm ?_ hdb)
  refine PySem.W.callWith_K (h₀ := X.base) I.ok.mod.kin hk ?_ he hpl
  exact thn (w pos pins s I) fun us s1 ⟨vs, H1, I1, r, q⟩ => ⟨I1.kIn, run σ vs H1 Q q pins s1 us I1 r⟩
/-- a name that goes -/
theorem en_gone {K : PySem.W.Frag} {S : Hd} {H : Hp} {σ : L2.St} {ρ : En} {i : Nat} (en : EnOk K S H σ ρ) : EnOk K S H (σ.set i none) (ρ.set i .no) ∧ ∀ p, Owns (σ.set i none) (ρ.set i .no) p → Owns σ ρ p := by
  have hl := en.len
  have each : ∀ (j : Nat) (s' : Slot), (ρ.set i .no)[j]? = some s' → s' = .no ∨ (j ≠ i ∧ ρ[j]? = some s') := fun j s' hj => by
    by_cases z : i = j
    · subst z
      by_cases h : i < ρ.length
      · rw [List.getElem?_set_self h] at hj
        exact .inl (Option.some.inj hj).symm
      · rw [List.getElem?_eq_none (by rw [List.length_set]; omega)] at hj; cases hj
    · rw [List.getElem?_set_ne z] at hj
      exact .inr ⟨fun w => z w.symm, hj⟩
  have keep : ∀ j, j ≠ i → (σ.set i none)[j]? = σ[j]? := fun j nj => List.getElem?_set_ne fun z => nj z.symm
  have own : ∀ p, Owns (σ.set i none) (ρ.set i .no) p → Owns σ ρ p := fun p ⟨j, s', hj, oj, ej⟩ => by
    rcases each j s' hj with rfl | ⟨nj, h⟩
    · cases oj
    · rw [keep j nj] at ej
      exact ⟨j, s', h, oj, ej⟩
  refine ⟨⟨by rw [List.length_set, List.length_set]; exact hl, fun j s' hj => ?_, fun j k sj sk p njk hj hk oj ok' ej ek => ?_⟩, own⟩
  · rcases each j s' hj with rfl | ⟨nj, h⟩
    · trivial
    · have q := en.slot j s' h
      cases s' with
      | no => trivial
      | dat d => obtain ⟨u, e1, q⟩ := q; exact ⟨u, (keep j nj).trans e1, q⟩
      | own d => obtain ⟨p, us, e1, q⟩ := q; exact ⟨p, us, (keep j nj).trans e1, q⟩
      | lock d => obtain ⟨p, us, e1, q⟩ := q; exact ⟨p, us, (keep j nj).trans e1, q⟩
  · rcases each j sj hj with rfl | ⟨nj, h⟩
    · cases oj
    · rcases each k sk hk with rfl | ⟨nk, h'⟩
      · cases ok'
      · rw [keep j nj] at ej
        rw [keep k nk] at ek
        exact en.apart j k sj sk p njk h h' oj ok' ej ek
/-- try: body except (X, ..) as n: y = n -/
theorem ss_try {n : Str} {cs : List Value} {i j : Nat} {body suite : List Stmt} {b₀ : Stmt} {pos' : Pos} {b : Iv.C} {yes all : List Str} (hca : ∀ nm, c.ca nm = .ref (He.ga X.K nm)) (hex : ∀ nm ∈ all, PySem.W.exmAny X.K (.ref (He.ga X.K nm)) cs = some (decide (nm ∈ yes)))
    (hs : X.stack = X.env :: X.outer) (hf : X.env.frame = some X.env.locals) (hxe : X.ex = []) (hN : X.N.Nodup) (hi : X.N[i]? = some n) (hln : X.env.kindOf n = some .local) (hij : i ≠ j) (hc : ClsE X tyE cs) (tk : Takes X c.W)
    (hb : ∀ (W : WX) (pn : List (Addr × Obj)) (xe : Value → Shared → Prop), Takes (X.tr pn xe) W → PassesOwn (model X.prog X.w) X.A X.env xe → SB' { c with W := W } (X.tr pn xe) P body b)
    (hsu : ∀ (a : Addr) (oe : Obj) (pn : List (Addr × Obj)), PSs (X.suite a ((a, oe) :: pn)) (b₀ :: suite) (tAsg (tVar i) (gName j))) :
    SS c X P (.Try body [.ExceptHandler (some tyE) (some n) (b₀ :: suite) pos'] [] [] pos) (.try_ b yes all i j) := by
  intro ρ S σ H D hd en hp
  have hp : PostS c X.K P σ ρ S H D (if i ∈ P ∨ j ∈ P then .bad else match exec c.cl P b ρ with
    | .exc x ρ1 => if x.cls ∈ all then (if x.cls ∈ yes then (match excD x with
        | some d => .ok (.next ((ρ1.set j (.dat d)).set i .no))
        | none => .bad) else .exc x ρ1) else .bad
    | r => r) := hp
  by_cases hP : i ∈ P ∨ j ∈ P
  · rw [if_pos hP] at hp; exact hp.elim
  rw [if_neg hP] at hp
  refine ws_of (ps_try_keep (tb := fun W D σ H => ∃ (ρ : En) (S : Hd), Dm S H ∧ EnOk X.K S H σ ρ ∧ PostS { c with W := W } X.K P σ ρ S H D (exec c.cl P b ρ)) hs hf hxe hN hi hln hij hc tk (fun W pn xe tk' po => ⟨fun pins s σ H D I h => ?_⟩) hsu) ⟨ρ, S, hd, en, ?_⟩
  · obtain ⟨ρ, S, hd, en, h⟩ := h
    exact hb W pn xe tk' po ρ S σ H D hd en h pins s I
  · cases hx : exec c.cl P b ρ with
    | bad => rw [hx] at hp; exact hp
    | ok o =>
      rw [hx] at hp
      cases o with
      | next ρ1 => exact hp
      | ret v ρ1 => exact hp
      | brk ρ1 => exact hp
      | cont ρ1 => exact hp
    | exc z ρ1 =>
      rw [hx] at hp
      simp only at hp
      by_cases hm : z.cls ∈ all
      · rw [if_pos hm] at hp
        intro d σ' S' H' f' en' sb xo
        refine ⟨decide (z.cls ∈ yes), by rw [hca]; exact hex _ hm, fun hy a na => ?_, fun hn => ?_⟩
        · have hy : z.cls ∈ yes := of_decide_eq_true hy
          rw [if_pos hy] at hp
          obtain ⟨cl, fs⟩ := z
          match fs, hp, xo with
          | [], hp, _ => exact hp.elim
          | _ :: _ :: _, hp, _ => exact hp.elim
          | [(g, dd)], hp, xo =>
            obtain ⟨gs, x1, x2, x3, x4⟩ := xo
            match gs, x1, x3, x4 with
            | [], _, x3, _ => simp at x3
            | _ :: _ :: _, _, x3, _ => simp at x3
            | [(g', v)], x1, x3, x4 =>
              have eg : g' = g := by simpa using x3
              subst eg
              cases x4 with
              | cons x4 _ =>
              have fa : Fr S' H' (fun _ => False) S' (upd H' a (exv (.ref (He.ga X.K cl)) (some d) a)) := Fr.alloc f'.dm na
              have dq : Dq X.K (hid S' (upd H' a (exv (.ref (He.ga X.K cl)) (some d) a))) (.ref a) (xcD cl g' dd) :=
                .exc (dd := d) (hid_some (not_hid f'.dm na) upd_same) (hid_some x2 (by rw [upd_ne (ne_of_none x1 na)]; exact x1)) (Dq.mono fa.hid _ _ x4)
              have en1 := en'.step0 fa
              obtain ⟨e1, e2, e3⟩ := en_set (i := j) (v := .ref a) (s := .dat (xcD cl g' dd)) en1 (fun h => ⟨.ref a, List.getElem?_set_self h, dq⟩) fun p z => by cases z
              obtain ⟨g1, g2⟩ := en_gone (i := i) e1
              have es : ((σ'.set i (some (V.ref a))).set j (some (.ref a))).set i none = (σ'.set j (some (.ref a))).set i none := by
                rw [List.set_comm _ _ hij, List.set_set]
              rw [es, hca]
              refine hp _ S' _ (f'.trans fa fun _ z => z.elim) g1 ⟨fun p z => ?_, fun k hk => ?_⟩
              · rcases e2 p (g2 p z) with w | w
                · exact sb.own p w
                · exact Bool.noConfusion w.1
              · have ki : k ≠ i := fun z => hP (.inl (by rw [← z]; exact hk))
                have kj : k ≠ j := fun z => hP (.inr (by rw [← z]; exact hk))
                rw [List.getElem?_set_ne ki.symm, List.getElem?_set_ne kj.symm]
                exact sb.prot k hk
        · have hn : z.cls ∉ yes := of_decide_eq_false hn
          rw [if_neg hn] at hp
          exact hp d σ' S' H' f' en' sb xo
      · rw [if_neg hm] at hp; exact hp.elim
end
end Iv
end

section
set_option Elab.async false
set_option linter.all false
set_option maxRecDepth 100000
set_option maxHeartbeats 4000000
namespace Iv
open PySem PySem.Spec PyProof.Rows L2
section
variable {c : Cc} {X : Cx} {P : List Nat} {st : Stmt} {e a b tyE : Expr} {x y ia ib : E} {pos p apos cpos kpos : Pos} {nm f : Str} {bmB : List Value} {C fI : Addr} {σ : L2.St} {ρ : En} {S : Hd} {H : Hp} {Q : VK}
/-- X(f = e), a value -/
theorem sx_mkxK {k : Nat} (T : PySem.Ivx.XcT X.K X.mg nm f bmB C fI) (hC : C = He.ga X.K nm) (hr : Room k X.A) (hx : SX c X a x) (hg : Gl X nm) (hdb : (nm == ("__debug__" : Str)) = false)
    (hall : (backToKw pos (keywordEach [⟨some f, a, kpos⟩] X.env)).all (·.1.isSome) = true) (hks : (backToKw pos (keywordEach [⟨some f, a, kpos⟩] X.env)).filterMap (·.1) = [f]) (hpl : ((backTo pos (starEach [] X.env)).any (·.1) || (backToKw pos (keywordEach [⟨some f, a, kpos⟩] X.env)).any (·.1.isNone)) = false) :
    SX c X (.Call (.Name nm p) [] [⟨some f, a, kpos⟩] pos) (.mkx nm f x) := by
  refine sx_of (fun ρ S σ H Q hd en hp => ?_) rfl
  refine we_of (pe_mkxK T hr (pk_cons pe_we pk_nil) ta_mono hg hdb hall hks hpl) ?_
  refine hx.se.sd ρ S σ H _ hd en (post_map (f := Val.d) (post_bnd hp fun v ρ1 h1 u S1 H1 f1 en1 s1 g1 => ?_))
  have h1 := post_shiftE f1 s1 h1
  refine ⟨u, rfl, fun d b hn hb ne => ?_⟩
  have fa : Fr S1 H1 (fun _ => False) S1 (upd H1 d (.xd [(f, u)])) := Fr.alloc f1.dm hn
  have hb' : upd H1 d (.xd [(f, u)]) b = none := by rw [upd_ne ne.symm]; exact hb
  have fb : Fr S1 (upd H1 d (.xd [(f, u)])) (fun _ => False) S1 (upd (upd H1 d (.xd [(f, u)])) b (exv (.ref C) (some d) b)) := Fr.alloc fa.dm hb'
  have fab := fa.trans fb fun _ z => z.elim
  refine h1 _ S1 _ (fab.imp fun _ z => z.elim) (en1.step0 fab) Sub.refl ?_
  refine .exc (dd := d) (v := u) (hid_some (not_hid f1.dm hb) (by rw [upd_same, hC])) (hid_some (not_hid f1.dm hn) ?_) (Dq.mono fab.hid _ _ g1)
  rw [upd_ne ne, upd_same]
/-- a module's constant -/
theorem sx_globI {n : Str} {i : Int} {p2 : Pos} (hg : Gl X n) (hm : ∃ t, X.mg n = some (.int i t)) (hdb : (n == ("__debug__" : Str)) = false) : SX c X (.Name n p2) (.c (.int i)) := by
  obtain ⟨t, hm⟩ := hm
  exact sx_c (v := .int i) ⟨fun pins s σ H Q I h => ld_glob I hg hm ⟨.int i, H, I, ⟨t, rfl⟩, h⟩ hdb⟩ fun _ => .int i
theorem sx_globS {n z : Str} {p2 : Pos} (hg : Gl X n) (hm : ∃ t, X.mg n = some (.str z t)) (hdb : (n == ("__debug__" : Str)) = false) : SX c X (.Name n p2) (.c (.str z)) := by
  obtain ⟨t, hm⟩ := hm
  exact sx_c (v := .str z) ⟨fun pins s σ H Q I h => ld_glob I hg hm ⟨.str z, H, I, ⟨t, rfl⟩, h⟩ hdb⟩ fun _ => .str z
theorem cnt_dq {K : PySem.W.Frag} {u : V} {d : PyData} (hu : Dq K H u d) (fd : flat d = true) : ∀ {ds : List PyData} {vs : List V}, DqA K H vs ds → ds.all flat = true → (vs.countP fun z => eqV z u) = ds.countP fun y => PyData.eqv y d
  | [], _, h, _ => by cases h; rfl
  | e :: ds, _, h, f => by
    cases h with
    | cons h1 h2 =>
      rw [List.all_cons, Bool.and_eq_true] at f
      rw [List.countP_cons, List.countP_cons, cnt_dq hu fd h2 f.2, flat_eq h1 hu f.1 fd]
/-- xs.count(y) -/
theorem sx_cnt (ha : SX c X a ia) (hb : SX c X b ib) (hpe : PE X (.Call (.Attribute a "count" apos) [b] [] cpos) (tBM X.K "list" (rCntF X.K) (WE X a) (tCons (WE X b) tNil))) : SX c X (.Call (.Attribute a "count" apos) [b] [] cpos) (.cnt ia ib) := by
  refine sx_of (fun ρ S σ H Q hd en hp => ?_) rfl
  refine we_of hpe ?_
  refine ha.sv ρ S σ H _ hd en (post_bnd hp fun x ρ1 h1 u S1 H1 f1 en1 s1 g1 => ?_)
  have D1 := g1.now f1.dm en1
  have h1 := post_shiftE f1 s1 h1
  by_cases hl : isLD x = true
  case neg => rw [if_neg hl] at h1; exact h1.elim
  rw [if_pos hl] at h1
  have ty : ∃ q vs, u = .ref q ∧ H1 q = some (.lst vs) := by
    cases x with
    | list ds => obtain ⟨q, vs, e1, e2, _⟩ := D1.lst; exact ⟨q, vs, e1, e2⟩
    | _ => cases hl
  obtain ⟨q, vs, rfl, hq⟩ := ty
  refine ⟨.inl ⟨rfl, _, SqL.of hq⟩, ?_⟩
  refine hb.sv ρ1 S1 σ H1 _ f1.dm en1 (post_bnd h1 fun y ρ2 h2 v S2 H2 f2 en2 s2 g2 => ?_)
  have h2 := post_shiftE f2 s2 h2
  have D2 := g2.now f2.dm en2
  cases hr : reD ia ρ2 x with
  | none => rw [hr] at h2; exact h2.elim
  | some x' =>
    rw [hr] at h2
    have D1' := g1.later f2 en2 hr
    obtain ⟨val, e1, q'⟩ := prim f2.dm en2 h2
    unfold cntD at e1
    split at e1
    · split at e1
      · rename_i ds _ hc
        cases e1
        obtain ⟨q2, vs2, e3, e4, e5⟩ := D1'.lst
        cases e3
        have e5 := e5.mono hid_ext
        refine ⟨q, vs2, v, rfl, rfl, SqL.of e4, flat_v D2.dq hc.1, flat_all e5 hc.2, ?_⟩
        rw [cnt_dq D2.dq hc.1 e5 hc.2]
        exact q' _ S2 H2 (Fr.refl f2.dm) (.int _)
      · cases e1
    · cases e1
theorem idx_dq {K : PySem.W.Frag} {u : V} {d : PyData} (hu : Dq K H u d) (fd : flat d = true) : ∀ {ds : List PyData} {vs : List V} {i j : Nat}, DqA K H vs ds → ds.all flat = true → idxGo d i ds = some j → i ≤ j ∧ ∃ z, vs[j - i]? = some z ∧ eqV z u = true ∧ ∀ m z', m < j - i → vs[m]? = some z' → eqV z' u = false
  | [], _, _, _, h, _, e => by cases e
  | e :: ds, _, i, j, h, f, ei => by
    cases h with
    | @cons w vs _ _ h1 h2 =>
      rw [List.all_cons, Bool.and_eq_true] at f
      unfold idxGo at ei
      have he := flat_eq h1 hu f.1 fd
      by_cases hq : PyData.eqv e d = true
      · rw [if_pos hq] at ei
        cases ei
        refine ⟨Nat.le_refl _, w, by simp, by rw [he]; exact hq, fun m z' hm => by omega⟩
      · rw [if_neg hq] at ei
        obtain ⟨h3, z, h4, h5, h6⟩ := idx_dq hu fd h2 f.2 ei
        have ej : j - i = (j - (i + 1)) + 1 := by omega
        refine ⟨by omega, z, by rw [ej]; simpa using h4, h5, fun m z' hm hz => ?_⟩
        cases m with
        | zero =>
          simp only [List.getElem?_cons_zero, Option.some.injEq] at hz
          subst hz
          rw [he]; simpa using hq
        | succ m => exact h6 m z' (by omega) (by simpa using hz)
/-- list(range(a, b)), tuple(range(a, b)) -/
theorem ints_rg {K : PySem.W.Frag} {H : Hp} : ∀ (n : Nat) (i : Int), DqA K H ((List.range n).map fun k => V.int (i + (k : Nat))) (intsD i n)
  | 0, i => .nil
  | n + 1, i => by
    rw [List.range_succ_eq_map, List.map_cons, List.map_map]
    have e : ((fun k => V.int (i + ((k : Nat) : Int))) ∘ Nat.succ) = fun k => V.int (i + 1 + ((k : Nat) : Int)) := by
      funext k
      show V.int (i + ((k + 1 : Nat) : Int)) = _
      congr 1
      push_cast
      omega
    rw [e]
    refine .cons ?_ (ints_rg n (i + 1))
    have e0 : i + ((0 : Nat) : Int) = i := by simp
    rw [e0]
    exact .int i
theorem rg_end {t : Bool} {i j : Int} {S1 : Hd} {H1 : Hp} {ρ1 : En} (hd : Dm S1 H1) (en : EnOk X.K S1 H1 σ ρ1) (h : PostG c X.K σ ρ1 S1 H1 (GE X.K σ H1) Q (if -1000000 < i ∧ i < 1000000 ∧ -1000000 < j ∧ j < 1000000 then .ok (if t then .dat (.tuple (intsD i (j - i).toNat)) else .new (intsD i (j - i).toNat), ρ1) else .bad)) :
    RgOk i j ∧ (if t then NewT H1 (rgV i j) Q else ∀ q, H1 q = none → Q (.ref q) (upd H1 q (.lst (rgV i j)))) := by
  by_cases hz : -1000000 < i ∧ i < 1000000 ∧ -1000000 < j ∧ j < 1000000
  case neg => rw [if_neg hz] at h; exact h.elim
  rw [if_pos hz] at h
  refine ⟨⟨by omega, by omega, by omega, by omega, by omega⟩, ?_⟩
  have D : DqA X.K (hid S1 H1) (rgV i j) (intsD i (j - i).toNat) := ints_rg _ _
  cases t with
  | true =>
    show NewT H1 (rgV i j) Q
    intro q ob hq ho
    have f := Fr.alloc (O := fun _ => False) (o := .frz ob (.tup (rgV i j))) hd hq
    exact h _ S1 _ (f.imp fun _ z => z.elim) (en.step0 f) Sub.refl (.tup (sqS_new (not_hid hd hq) ho) (D.mono f.hid))
  | false =>
    show ∀ q, H1 q = none → Q (.ref q) (upd H1 q (.lst (rgV i j)))
    intro q hq
    have f := Fr.allocH (O := fun _ => False) (o := .lst (rgV i j)) hd hq
    have q' : PV X.K H1 (hide S1 q) (upd H1 q (.lst (rgV i j))) (.ref q) (.new (intsD i (j - i).toNat)) := ⟨q, _, rfl, hide_same, upd_same, D.mono f.hid, hq⟩
    exact h _ _ _ (f.imp fun _ z => z.elim) (en.step0 f) Sub.refl (pv_vok en q')
theorem rg_core2 {t : Bool} (ha : SX c X a ia) (hb : SX c X b ib) (hd : Dm S H) (en : EnOk X.K S H σ ρ) (hp : PostG c X.K σ ρ S H (GE X.K σ H) Q (ev c.cl (.rg t ia ib) ρ)) :
    tRg2 (WE X a) (WE X b) σ H (fun i j H1 => RgOk i j ∧ (if t then NewT H1 (rgV i j) Q else ∀ q, H1 q = none → Q (.ref q) (upd H1 q (.lst (rgV i j))))) := by
  refine ha.se ρ S σ H _ hd en (post_bnd hp fun u ρ1 h1 w1 S1 H1 f1 en1 s1 g1 => ?_)
  refine hb.se ρ1 S1 σ H1 _ f1.dm en1 (post_bnd (post_shiftE f1 s1 h1) fun v ρ2 h2 w2 S2 H2 f2 en2 s2 g2 => ?_)
  have h2 := post_shiftE f2 s2 h2
  cases u with
  | new ds => exact h2.elim
  | dat d =>
    cases d with
    | int i =>
      cases v with
      | new ds => exact h2.elim
      | dat d2 =>
        cases d2 with
        | int j =>
          have g1 : Dq X.K (hid S1 H1) w1 (.int i) := g1
          have g2 : Dq X.K (hid S2 H2) w2 (.int j) := g2
          cases g1; cases g2
          exact ⟨i, j, rfl, rfl, rg_end f2.dm en2 h2⟩
        | _ => exact h2.elim
    | _ => exact h2.elim
theorem rg_core1 {t : Bool} (hb : SX c X b ib) (hd : Dm S H) (en : EnOk X.K S H σ ρ) (hp : PostG c X.K σ ρ S H (GE X.K σ H) Q (ev c.cl (.rg t (.c (.int 0)) ib) ρ)) :
    tRg1 (WE X b) σ H (fun i j H1 => RgOk i j ∧ (if t then NewT H1 (rgV i j) Q else ∀ q, H1 q = none → Q (.ref q) (upd H1 q (.lst (rgV i j))))) := by
  have hp : PostG c X.K σ ρ S H (GE X.K σ H) Q (bnd (ev c.cl ib ρ) fun v ρ2 => match Val.dat (.int 0), v with
    | .dat (.int i), .dat (.int j) => if -1000000 < i ∧ i < 1000000 ∧ -1000000 < j ∧ j < 1000000 then .ok (if t then .dat (.tuple (intsD i (j - i).toNat)) else .new (intsD i (j - i).toNat), ρ2) else .bad
    | _, _ => .bad) := hp
  refine hb.se ρ S σ H _ hd en (post_bnd hp fun v ρ2 h2 w2 S2 H2 f2 en2 s2 g2 => ?_)
  have h2 := post_shiftE f2 s2 h2
  cases v with
  | new ds => exact h2.elim
  | dat d2 =>
    cases d2 with
    | int j =>
      have g2 : Dq X.K (hid S2 H2) w2 (.int j) := g2
      cases g2
      exact ⟨j, rfl, rg_end f2.dm en2 h2⟩
    | _ => exact h2.elim
section
variable {p1 p2 pos1 pos2 : Pos}
theorem sx_lrg1 (hc : X.calm = true) (hg : Gl X "list") (hm : X.mg "list" = none) (hg2 : Gl X "range") (hm2 : X.mg "range" = none) (hb : SX c X b ib) (na : starEach [b] X.env = (false, eval b X.env) :: starEach [] X.env)
    (na2 : starEach [.Call (.Name "range" p2) [b] [] pos2] X.env = (false, eval (.Call (.Name "range" p2) [b] [] pos2) X.env) :: starEach [] X.env) : SX c X (.Call (.Name "list" p1) [.Call (.Name "range" p2) [b] [] pos2] [] pos1) (.rg false (.c (.int 0)) ib) :=
  sx_of (fun ρ S σ H Q hd en hp => we_of (pe_listRg hc hg hm (prg_1 hg2 hm2 pe_we na) na2) (rg_core1 hb hd en hp)) rfl
theorem sx_lrg2 (hc : X.calm = true) (hg : Gl X "list") (hm : X.mg "list" = none) (hg2 : Gl X "range") (hm2 : X.mg "range" = none) (ha : SX c X a ia) (hb : SX c X b ib) (hpr : PRg X (.Call (.Name "range" p2) [a, b] [] pos2) (tRg2 (WE X a) (WE X b)))
    (na2 : starEach [.Call (.Name "range" p2) [a, b] [] pos2] X.env = (false, eval (.Call (.Name "range" p2) [a, b] [] pos2) X.env) :: starEach [] X.env) : SX c X (.Call (.Name "list" p1) [.Call (.Name "range" p2) [a, b] [] pos2] [] pos1) (.rg false ia ib) :=
  sx_of (fun ρ S σ H Q hd en hp => we_of (pe_listRg hc hg hm hpr na2) (rg_core2 ha hb hd en hp)) rfl
theorem sx_trg1 (hc : X.calm = true) (hg : Gl X "tuple") (hm : X.mg "tuple" = none) (hg2 : Gl X "range") (hm2 : X.mg "range" = none) (hb : SX c X b ib) (na : starEach [b] X.env = (false, eval b X.env) :: starEach [] X.env)
    (na2 : starEach [.Call (.Name "range" p2) [b] [] pos2] X.env = (false, eval (.Call (.Name "range" p2) [b] [] pos2) X.env) :: starEach [] X.env) : SX c X (.Call (.Name "tuple" p1) [.Call (.Name "range" p2) [b] [] pos2] [] pos1) (.rg true (.c (.int 0)) ib) :=
  sx_of (fun ρ S σ H Q hd en hp => we_of (pe_tupRgS hc hg hm (prg_1 hg2 hm2 pe_we na) na2) (rg_core1 hb hd en hp)) rfl
theorem sx_trg2 (hc : X.calm = true) (hg : Gl X "tuple") (hm : X.mg "tuple" = none) (hg2 : Gl X "range") (hm2 : X.mg "range" = none) (ha : SX c X a ia) (hb : SX c X b ib) (hpr : PRg X (.Call (.Name "range" p2) [a, b] [] pos2) (tRg2 (WE X a) (WE X b)))
    (na2 : starEach [.Call (.Name "range" p2) [a, b] [] pos2] X.env = (false, eval (.Call (.Name "range" p2) [a, b] [] pos2) X.env) :: starEach [] X.env) : SX c X (.Call (.Name "tuple" p1) [.Call (.Name "range" p2) [a, b] [] pos2] [] pos1) (.rg true ia ib) :=
  sx_of (fun ρ S σ H Q hd en hp => we_of (pe_tupRgS hc hg hm hpr na2) (rg_core2 ha hb hd en hp)) rfl
end
end
end Iv
end

section
set_option Elab.async false
set_option linter.all false
set_option maxRecDepth 100000
set_option maxHeartbeats 4000000
namespace Iv
open PySem PySem.Spec PyProof.Rows L2
/-! ### dicts that nobody changes: they are held fast where they are made -/
theorem we_lock {X : Cx} {e : Expr} {σ : L2.St} {H : Hp} {Q : VK} (h : WE X e σ H fun v H' => ∃ (d : Addr) (u : HO), v = .ref d ∧ H' d = some u ∧ Mut (some u) ∧ ∀ od, Q v (upd H' d (.frz od u))) : WE X e σ H Q := fun pins s I =>
  thn (h pins s I) fun w s' ⟨v, H', I', r, d, u, e1, e2, m, q⟩ => by
    obtain ⟨od, I2⟩ := I'.lock e2 m
    exact ⟨v, _, I2, r, q od⟩
theorem own_some {K : PySem.W.Frag} {S : Hd} {H : Hp} {σ : L2.St} {ρ : En} {p : Addr} (en : EnOk K S H σ ρ) (h : Owns σ ρ p) : H p ≠ none := fun hn => by
  obtain ⟨j, s, hj, oj, ej⟩ := h
  have q := en.slot j s hj
  cases s with
  | no => cases oj
  | dat d => cases oj
  | own ds =>
    obtain ⟨p', us, e1, _, e3, _⟩ := q
    rw [ej] at e1; cases e1
    rw [hn] at e3; cases e3
  | lock ds =>
    obtain ⟨p', us, e1, _, e3, _⟩ := q
    rw [ej] at e1; cases e1
    rw [hn] at e3; cases e3
/-- from a hidden dict to data -/
theorem dct_show {K : PySem.W.Frag} {S S2 : Hd} {H H2 : Hp} {σ : L2.St} {ρ ρ2 : En} {p : Addr} {kvs : List (Key × V)} {ks vs : List PyData} {od : Obj} {o1 : HO} (hp : H p = none) (f : Fr S H (Owns σ ρ) S2 H2) (en : EnOk K S2 H2 σ ρ2) (hS : S2 p = true) (hO : ¬ Owns σ ρ2 p)
    (hk : ks = kvs.map fun kv => keyD kv.1) (D : DqA K (hid S2 H2) (kvs.map (·.2)) vs) :
    ∃ S3, Fr S H (Owns σ ρ) S3 (upd (upd H2 p o1) p (.frz od (.dK kvs))) ∧ EnOk K S3 (upd (upd H2 p o1) p (.frz od (.dK kvs))) σ ρ2 ∧ Dq K (hid S3 (upd (upd H2 p o1) p (.frz od (.dK kvs)))) (.ref p) (dctD ks vs) := by
  have fs : Fr S2 H2 (fun q => q = p) S2 (upd H2 p o1) := Fr.store f.dm rfl hS
  have ft : Fr S2 (upd H2 p o1) (fun q => q = p) S2 (upd (upd H2 p o1) p (.frz od (.dK kvs))) := Fr.store fs.dm rfl hS
  have fu : Fr S2 (upd (upd H2 p o1) p (.frz od (.dK kvs))) (fun q => q = p) (bare S2 p) (upd (upd H2 p o1) p (.frz od (.dK kvs))) := Fr.show ft.dm rfl
  have fst := (fs.trans ft fun q e => .inl e).trans fu fun q e => .inl e
  refine ⟨bare S2 p, f.trans fst fun q e => .inr (by subst e; exact hp), en.step fst fun q w e => hO (by subst e; exact w), ?_⟩
  exact .dct (hid_some bare_same upd_same) hk (D.mono fst.hid)
section
variable {c : Cc} {X : Cx} {a b d : Expr} {ia ib id : E} {pos apos cpos : Pos}
/-- {k: v} -/
theorem sx_dsp (ha : SX c X a ia) (hb : SX c X b ib) : SX c X (.Dict [some a] [b] pos) (.dsp ia ib) := by
  refine sx_of (fun ρ S σ H Q hd en hp => ?_) rfl
  refine we_lock (we_of (pe_disp (pps_cons pe_we pe_we pps_nil) rfl rfl (by simp) (by simp)) ?_)
  intro p hn
  have fa : Fr S H (fun _ => False) (hide S p) (upd H p (.dK [])) := Fr.allocH hd hn
  have ena := en.step0 fa
  have faO : Fr S H (Owns σ ρ) (hide S p) (upd H p (.dK [])) := fa.imp fun _ z => z.elim
  have hO : ∀ ρ', Sub σ ρ ρ' → ¬ Owns σ ρ' p := fun ρ' s z => own_some en (s p z) hn
  have hp : PostG c X.K σ ρ S H (GE X.K σ H) Q (bnd (ev c.cl ia ρ) fun u ρ1 => match u with
    | .dat (.int i) => bnd (ev c.cl ib ρ1) fun v ρ2 => .ok (.dat (dctD [.int i] [v.d]), ρ2)
    | _ => .bad) := hp
  refine ha.se ρ (hide S p) σ _ _ fa.dm ena ?_
  cases hk : ev c.cl ia ρ with
  | bad => rw [hk] at hp; exact hp.elim
  | exc z ρ' =>
    rw [hk] at hp
    intro dd S' H' f' en' s' x'
    exact hp dd S' H' (faO.trans f' fun q e => .inl e) en' s' x'
  | ok r =>
    obtain ⟨u, ρ1⟩ := r
    rw [hk] at hp
    intro w1 S1 H1 f1 en1 s1 g1
    cases u with
    | new ds => exact hp.elim
    | dat du =>
      cases du with
      | int i =>
        have hp : PostG c X.K σ ρ S H (GE X.K σ H) Q (bnd (ev c.cl ib ρ1) fun v ρ2 => .ok (.dat (dctD [.int i] [v.d]), ρ2)) := hp
        have g1 : Dq X.K (hid S1 H1) w1 (.int i) := g1
        cases g1
        have f01 : Fr S H (Owns σ ρ) S1 H1 := faO.trans f1 fun q e => .inl e
        refine hb.se.sd ρ1 S1 σ H1 _ f1.dm en1 ?_
        cases hv : ev c.cl ib ρ1 with
        | bad => rw [hv] at hp; exact hp.elim
        | exc z ρ' =>
          rw [hv] at hp
          intro dd S' H' f' en' s' x'
          exact hp dd S' H' (f01.trans f' fun q e => .inl (s1 q e)) en' (s1.trans s') x'
        | ok r =>
          obtain ⟨v, ρ2⟩ := r
          rw [hv] at hp
          intro w2 S2 H2 f2 en2 s2 g2
          have g2 : Dq X.K (hid S2 H2) w2 v.d := g2
          have f02 : Fr S H (Owns σ ρ) S2 H2 := f01.trans f2 fun q e => .inl (s1 q e)
          obtain ⟨q1, q2⟩ := f1.hidn p hide_same (hO ρ Sub.refl)
          obtain ⟨q3, q4⟩ := f2.hidn p q1 (hO ρ1 s1)
          have hp2 : H2 p = some (.dK []) := q4.trans (q2.trans upd_same)
          refine ⟨hp2, [(.inl i, w2)], rfl, by simp, p, _, rfl, upd_same, trivial, fun od => ?_⟩
          obtain ⟨S3, h1, h2, h3⟩ := dct_show (od := od) (o1 := .dK [(.inl i, w2)]) (kvs := [(.inl i, w2)]) (ks := [.int i]) (vs := [v.d]) hn f02 en2 q3 (hO ρ2 (s1.trans s2)) rfl (.cons g2 .nil)
          exact hp (.ref p) S3 _ h1 h2 (s1.trans s2) h3
      | _ => exact hp.elim
theorem get_dq {K : PySem.W.Frag} {H : Hp} {i : Int} : ∀ {kvs : List (Key × V)} {vs : List PyData}, DqA K H (kvs.map (·.2)) vs →
    (∃ v d, valV kvs (.inl i) = some v ∧ getK i (kvs.map fun kv => keyD kv.1) vs = some d ∧ Dq K H v d) ∨ (valV kvs (.inl i) = none ∧ getK i (kvs.map fun kv => keyD kv.1) vs = none)
  | [], _, h => by cases h; exact .inr ⟨rfl, rfl⟩
  | (k, v) :: r, _, h => by
    cases h with
    | @cons _ _ d ds h1 h2 =>
      have ek : isK i (keyD k) = decide (k = .inl i) := by
        cases k with
        | inl j =>
          show decide (j = i) = decide ((Sum.inl j : Key) = .inl i)
          by_cases e : j = i
          · subst e; simp
          · have : ¬ (Sum.inl j : Key) = .inl i := fun z => e (Sum.inl.inj z)
            rw [decide_eq_false e, decide_eq_false this]
        | inr x =>
          have : ¬ (Sum.inr x : Key) = .inl i := fun z => by cases z
          rw [decide_eq_false this]; rfl
      have eg : getK i (((k, v) :: r).map fun kv => keyD kv.1) (d :: ds) = if isK i (keyD k) = true then some d else getK i (r.map fun kv => keyD kv.1) ds := rfl
      rw [eg, ek]
      by_cases e : k = .inl i
      · rw [decide_eq_true e, if_pos rfl, valV_pos (p := (k, v)) e]
        exact .inl ⟨v, d, rfl, rfl, h1⟩
      · rw [decide_eq_false e, if_neg Bool.false_ne_true, valV_neg (p := (k, v)) e]
        exact get_dq h2
/-- d.get(k, x) -/
theorem sx_get (ha : SX c X a ia) (hb : SX c X b ib) (hdd : SX c X d id) (hu : X.A.units + 1 < cLine) (m : M2 X a "get" apos b d cpos) : SX c X (.Call (.Attribute a "get" apos) [b, d] [] cpos) (.get ia ib id) := by
  refine sx_of (fun ρ S σ H Q hd en hp => ?_) rfl
  refine we_of (pe_dget2 hu pe_we pe_we pe_we m) ?_
  refine ha.se ρ S σ H _ hd en ?_
  have hp : PostG c X.K σ ρ S H (GE X.K σ H) Q (bnd (ev c.cl ia ρ) fun u ρ1 => match (match u with | .dat x => dctOf x | _ => none) with
    | some (ks, vs) => bnd (ev c.cl ib ρ1) fun k ρ2 => bnd (ev c.cl id ρ2) fun w ρ3 => match k, w with
      | .dat (.int i), .dat z => .ok (.dat ((getK i ks vs).getD z), ρ3)
      | _, _ => .bad
    | none => .bad) := hp
  cases hk : ev c.cl ia ρ with
  | bad => rw [hk] at hp; exact hp.elim
  | exc z ρ' => rw [hk] at hp; exact hp
  | ok r =>
    obtain ⟨u, ρ1⟩ := r
    rw [hk] at hp
    intro w1 S1 H1 f1 en1 s1 g1
    cases u with
    | new ds => exact hp.elim
    | dat x =>
      cases hx : dctOf x with
      | none =>
        have hp : PostG c X.K σ ρ S H (GE X.K σ H) Q (match dctOf x with
          | some (ks, vs) => bnd (ev c.cl ib ρ1) fun k ρ2 => bnd (ev c.cl id ρ2) fun w ρ3 => match k, w with
            | .dat (.int i), .dat z => .ok (.dat ((getK i ks vs).getD z), ρ3)
            | _, _ => .bad
          | none => .bad) := hp
        rw [hx] at hp; exact hp.elim
      | some kv =>
        obtain ⟨ks, vs⟩ := kv
        have hp : PostG c X.K σ ρ S H (GE X.K σ H) Q (match dctOf x with
          | some (ks, vs) => bnd (ev c.cl ib ρ1) fun k ρ2 => bnd (ev c.cl id ρ2) fun w ρ3 => match k, w with
            | .dat (.int i), .dat z => .ok (.dat ((getK i ks vs).getD z), ρ3)
            | _, _ => .bad
          | none => .bad) := hp
        rw [hx] at hp
        have hp := post_shiftE f1 s1 hp
        obtain ⟨p, o, kvs, rfl, h1, rfl, h3⟩ := dct_inv (show Dq X.K (hid S1 H1) w1 x from g1) hx
        refine ⟨p, rfl, .inl ⟨kvs, .inr ⟨o, (hid_of h1).2⟩⟩, ?_⟩
        refine hb.se ρ1 S1 σ H1 _ f1.dm en1 (post_bnd hp fun k ρ2 h2 w2 S2 H2 f2 en2 s2 g2 => ?_)
        refine hdd.se ρ2 S2 σ H2 _ f2.dm en2 (post_bnd (post_shiftE f2 s2 h2) fun w ρ3 h4 w3 S3 H3 f3 en3 s3 g3 => ?_)
        have h4 := post_shiftE f3 s3 h4
        cases k with
        | new ds => exact h4.elim
        | dat dk =>
          cases dk with
          | int i =>
            cases w with
            | new ds => exact h4.elim
            | dat z =>
              have g2 : Dq X.K (hid S2 H2) w2 (.int i) := g2
              have g3 : Dq X.K (hid S3 H3) w3 z := g3
              cases g2
              have h1' := f3.hid _ _ (f2.hid _ _ h1)
              have h3' := (h3.mono f2.hid).mono f3.hid
              have h4 : PostG c X.K σ ρ3 S3 H3 (GE X.K σ H3) Q (.ok (.dat ((getK i (kvs.map fun kv => keyD kv.1) vs).getD z), ρ3)) := h4
              refine ⟨valV kvs (.inl i), .inl ⟨kvs, .inl i, .inr ⟨o, (hid_of h1').2⟩, rfl, rfl⟩, ?_⟩
              rcases get_dq (i := i) h3' with ⟨v, dd, e1, e2, e3⟩ | ⟨e1, e2⟩
              · rw [e1]; rw [e2] at h4
                exact h4 v S3 H3 (Fr.refl f3.dm) en3 Sub.refl e3
              · rw [e1]; rw [e2] at h4
                exact h4 w3 S3 H3 (Fr.refl f3.dm) en3 Sub.refl g3
          | _ => exact h4.elim
end
end Iv
end

section
set_option Elab.async false
set_option linter.all false
set_option maxRecDepth 100000
set_option maxHeartbeats 4000000
namespace Iv
open PySem PySem.Spec PyProof.Rows L2
/-! ### dict comprehensions -/
theorem dct_show0 {K : PySem.W.Frag} {S S2 : Hd} {H H2 : Hp} {σ : L2.St} {ρ ρ2 : En} {p : Addr} {kvs : List (Key × V)} {ks vs : List PyData} {od : Obj} (hp : H p = none) (f : Fr S H (Owns σ ρ) S2 H2) (en : EnOk K S2 H2 σ ρ2) (hS : S2 p = true) (hO : ¬ Owns σ ρ2 p)
    (hk : ks = kvs.map fun kv => keyD kv.1) (D : DqA K (hid S2 H2) (kvs.map (·.2)) vs) :
    ∃ S3, Fr S H (Owns σ ρ) S3 (upd H2 p (.frz od (.dK kvs))) ∧ EnOk K S3 (upd H2 p (.frz od (.dK kvs))) σ ρ2 ∧ Dq K (hid S3 (upd H2 p (.frz od (.dK kvs)))) (.ref p) (dctD ks vs) := by
  have fs : Fr S2 H2 (fun q => q = p) S2 (upd H2 p (.frz od (.dK kvs))) := Fr.store f.dm rfl hS
  have fu : Fr S2 (upd H2 p (.frz od (.dK kvs))) (fun q => q = p) (bare S2 p) (upd H2 p (.frz od (.dK kvs))) := Fr.show fs.dm rfl
  have fst := fs.trans fu fun q e => .inl e
  refine ⟨bare S2 p, f.trans fst fun q e => .inr (by subst e; exact hp), en.step fst fun q w e => hO (by subst e; exact w), ?_⟩
  exact .dct (hid_some bare_same upd_same) hk (D.mono fst.hid)
theorem isK_key {i : Int} {k : Key} : isK i (keyD k) = decide (k = .inl i) := by
  cases k with
  | inl j =>
    show decide (j = i) = decide ((Sum.inl j : Key) = .inl i)
    by_cases e : j = i
    · subst e; simp
    · have : ¬ (Sum.inl j : Key) = .inl i := fun z => e (Sum.inl.inj z)
      rw [decide_eq_false e, decide_eq_false this]
  | inr x =>
    have : ¬ (Sum.inr x : Key) = .inl i := fun z => by cases z
    rw [decide_eq_false this]; rfl
theorem any_key {i : Int} : ∀ (kvs : List (Key × V)), (kvs.map fun kv => keyD kv.1).any (isK i) = kvs.any fun kv => decide (kv.1 = .inl i)
  | [] => rfl
  | (k, v) :: r => by
    rw [List.map_cons, List.any_cons, List.any_cons, any_key r, isK_key]
theorem set_dq {K : PySem.W.Frag} {H : Hp} {i : Int} {z : V} {d : PyData} (hz : Dq K H z d) : ∀ {kvs : List (Key × V)} {vs : List PyData}, DqA K H (kvs.map (·.2)) vs →
    DqA K H ((kvs.map fun kv => if kv.1 = .inl i then (kv.1, z) else kv).map (·.2)) (setV i d (kvs.map fun kv => keyD kv.1) vs)
  | [], _, h => by cases h; exact .nil
  | (k, v) :: r, _, h => by
    cases h with
    | @cons _ _ d0 ds h1 h2 =>
      have ih := set_dq (i := i) hz h2
      rw [List.map_cons, List.map_cons, List.map_cons]
      show DqA K H ((if k = .inl i then (k, z) else (k, v)).2 :: _) ((if isK i (keyD k) = true then d else d0) :: setV i d (r.map fun kv => keyD kv.1) ds)
      rw [isK_key]
      by_cases e : k = .inl i
      · rw [if_pos e, decide_eq_true e, if_pos rfl]
        exact .cons hz ih
      · rw [if_neg e, decide_eq_false e, if_neg Bool.false_ne_true]
        exact .cons h1 ih
theorem put_dq {K : PySem.W.Frag} {H : Hp} {i : Int} {z : V} {d : PyData} {kvs : List (Key × V)} {ks vs : List PyData} (hk : ks = kvs.map fun kv => keyD kv.1) (h : DqA K H (kvs.map (·.2)) vs) (hz : Dq K H z d) :
    (putD i d ks vs).1 = (putK kvs (.inl i) z).map (fun kv => keyD kv.1) ∧ DqA K H ((putK kvs (.inl i) z).map (·.2)) (putD i d ks vs).2 := by
  subst hk
  unfold putD putK
  rw [any_key]
  by_cases e : (kvs.any fun kv => decide (kv.1 = (.inl i : Key))) = true
  · rw [if_pos e, if_pos e]
    refine ⟨?_, set_dq hz h⟩
    show (kvs.map fun kv => keyD kv.1) = _
    rw [List.map_map]
    apply List.map_congr_left
    intro kv _
    show keyD kv.1 = keyD (if kv.1 = .inl i then (kv.1, z) else kv).1
    split <;> rfl
  · rw [if_neg e, if_neg e]
    refine ⟨?_, ?_⟩
    · show _ ++ [PyData.int i] = _
      rw [List.map_append]; rfl
    · rw [List.map_append]
      exact h.append (.cons hz .nil)
theorem putD_len (i : Int) (d : PyData) (ks vs : List PyData) : ks.length ≤ (putD i d ks vs).1.length := by
  unfold putD
  split
  · exact Nat.le_refl _
  · show ks.length ≤ (ks ++ [_]).length
    rw [List.length_append]; omega
theorem dcomp_len {test key val : En → R En (Val × En)} {tg : Tg} : ∀ {items ks vs : List PyData} {ρ : En} {ks' vs' : List PyData} {ρ' : En}, dcompGo test key val tg items ks vs ρ = .ok ((ks', vs'), ρ') → ks.length ≤ ks'.length
  | [], ks, vs, ρ, ks', vs', ρ', h => by cases h; exact Nat.le_refl _
  | x :: r, ks, vs, ρ, ks', vs', ρ', h => by
    unfold dcompGo at h
    split at h
    · cases h
    · split at h
      · split at h
        · split at h
          · rename_i i _ _ v _ _
            have := dcomp_len h
            exact Nat.le_trans (putD_len _ _ _ _) this
          · cases h
        · cases h
      · exact dcomp_len h
      · cases h
theorem dc_it {J : It} {n : Nat} {G : Hp → Prop} {Y : Nat → Hp → V → Hp → Prop} (w : Walk J n G Y) {g : TG} {tt : TT} {tk tv : TE} {vs : List Nat} {σ : L2.St} {H1 : Hp} {D : Addr} {Qd : Hp → Prop} (Pv : Nat → Hp → Prop) (h0 : Pv 0 (upd H1 D (.dK []))) (hG : ∀ i H, i ≤ n → Pv i H → G H)
    (hs : ∀ i x H H', i < n → Pv i H → Y i H x H' → g x (wipe σ vs) H' fun σ2 H2 => wipe σ2 vs = wipe σ vs ∧ tt σ2 H2 fun b H3 =>
      if b = true then tk σ2 H3 fun y H4 => tv σ2 H4 fun z H5 => ∃ kvs k, y = kV k ∧ H5 D = some (.dK kvs) ∧ kvs.length < sizeLine ∧ Pv (i + 1) (upd H5 D (.dK (putK kvs k z))) else Pv (i + 1) H3) (hd : ∀ H, Pv n H → Qd H) :
    ∃ W : Nat → Nat → Hp → Prop, (∃ m, W 0 m (upd H1 D (.dK []))) ∧ ∀ i m H, W i m H →
      (J.stop i H ∧ Qd H) ∨ (J.go i H ∧ ∃ Nx : Hp → Prop, (∀ H', Nx H' → ∃ m', m' < m ∧ W (i + 1) m' H') ∧ ∀ x H', J.yld i H x H' → g x (wipe σ vs) H' fun σ2 H2 => wipe σ2 vs = wipe σ vs ∧ tt σ2 H2 fun b H3 =>
        if b = true then tk σ2 H3 fun y H4 => tv σ2 H4 fun z H5 => ∃ kvs k, y = kV k ∧ H5 D = some (.dK kvs) ∧ kvs.length < sizeLine ∧ Nx (upd H5 D (.dK (putK kvs k z))) else Nx H3) := by
  have left : ∀ i, i < n → n - (i + 1) < n - i := fun i hi => by omega
  exists fun i m H => (m = n - i ∧ i ≤ n) ∧ Pv i H
  constructor
  · exact ⟨n, ⟨by omega, by omega⟩, h0⟩
  · intro i m H wm
    obtain ⟨⟨em, hi⟩, p⟩ := wm
    subst em
    have gH := hG i H hi p
    rcases Nat.lt_or_eq_of_le hi with hlt | heq
    · right
      exact ⟨w.goes i H hlt gH, Pv (i + 1), fun H' p' => ⟨_, left i hlt, ⟨rfl, hlt⟩, p'⟩, fun x H' y => hs i x H H' hlt p (w.yields i H x H' hlt gH y)⟩
    · left
      rw [heq] at p ⊢
      exact ⟨w.stops H (hG n H (Nat.le_refl n) p), hd H p⟩
section
variable {c : Cc} {X : Cx} {tgE iter elt kx : Expr} {ifs : List Expr} {scope : Scope} {k : Src} {src test x xk : E} {tg : Tg} {pos : Pos}
theorem dc_sound (hi : SI c X k tgE iter src) (hg : ∀ Y, Bk X scope Y → SG Y tgE tg) (ht : ∀ Y, Bk X scope Y → STs (calm0 c) Y ifs test) (hkx : ∀ Y, Bk X scope Y → SX (calm0 c) Y kx xk) (he : ∀ Y, Bk X scope Y → SX (calm0 c) Y elt x)
    {ρ : En} {S : Hd} {σ : L2.St} {H : Hp} {Q : VK} (hd : Dm S H) (en : EnOk X.K S H σ ρ) (hp : PostG c X.K σ ρ S H (GE X.K σ H) Q (ev c.cl (.dcp k src tg test xk x) ρ)) :
    tDc (WI X tgE iter) (gB X scope tgE) (tB' X scope ifs) (eB X scope kx) (eB X scope elt) tg.slots σ H fun v H' => ∃ (d : Addr) (u : HO), v = .ref d ∧ H' d = some u ∧ Mut (some u) ∧ ∀ od, Q v (upd H' d (.frz od u)) := by
  have eq1 : ev c.cl (.dcp k src tg test xk x) ρ = bnd (bnd (evs c.cl src ρ) fun as ρ1 => ofO ρ1 ((argsD as).bind (srcD k))) fun items ρ1 =>
      match dcompGo (ev c.cl test) (ev c.cl xk) (ev c.cl x) tg items [] [] (wipeE ρ1 tg.slots) with
      | .ok ((ks, vs), ρ2) => if ks.length ≤ big then .ok (.dat (dctD ks vs), backE ρ1 ρ2 tg.slots) else .bad
      | _ => .bad := by
    show bnd (evs c.cl src ρ) _ = _
    cases hr : evs c.cl src ρ with
    | bad => rfl
    | exc z ρ' => rfl
    | ok r =>
      obtain ⟨as, ρ1⟩ := r
      cases hq : (argsD as).bind (srcD k) with
      | none => simp only [bnd, hq, ofO]
      | some items =>
        simp only [bnd, hq, ofO]
        all_goals (cases dcompGo (ev c.cl test) (ev c.cl xk) (ev c.cl x) tg items [] [] (wipeE ρ1 tg.slots) <;> rfl)
  rw [eq1] at hp
  refine hi ρ S σ H _ hd en (post_bnd hp fun items ρ1 h1 J S1 H1 f1 en1 s1 g1 => ?_)
  intro D hD
  cases hf : dcompGo (ev c.cl test) (ev c.cl xk) (ev c.cl x) tg items [] [] (wipeE ρ1 tg.slots) with
  | bad => rw [hf] at h1; exact h1.elim
  | exc z ρ' => rw [hf] at h1; exact h1.elim
  | ok r =>
    obtain ⟨⟨ksF, vsF⟩, ρF⟩ := r
    rw [hf] at h1
    have h1 : PostG c X.K σ ρ S H (GE X.K σ H) Q (if ksF.length ≤ big then .ok (.dat (dctD ksF vsF), backE ρ1 ρF tg.slots) else .bad) := h1
    by_cases hz : ksF.length ≤ big
    · rw [if_pos hz] at h1
      obtain ⟨enw, subw⟩ := en_wipe en1 tg.slots
      have hDo : ¬ Owns (wipe σ tg.slots) (wipeE ρ1 tg.slots) D := fun z => by
        obtain ⟨j, s, hj, oj, ej⟩ := subw D z
        have q := en1.slot j s hj
        cases s with
        | no => cases oj
        | dat d => cases oj
        | own ds =>
          obtain ⟨p, us, e1, _, e3, _⟩ := q
          rw [ej] at e1; cases e1
          rw [hD] at e3; cases e3
        | lock ds =>
          obtain ⟨p, us, e1, _, e3, _⟩ := q
          rw [ej] at e1; cases e1
          rw [hD] at e3; cases e3
      have fa : Fr S1 H1 (fun _ => False) (hide S1 D) (upd H1 D (.dK [])) := Fr.allocH f1.dm hD
      refine dc_it g1 (Pv := fun i Hc => ∃ S' ρ' ks vs us, Fr S1 H1 (Owns (wipe σ tg.slots) (wipeE ρ1 tg.slots)) S' Hc ∧ EnOk X.K S' Hc (wipe σ tg.slots) ρ' ∧ (∀ p, Owns (wipe σ tg.slots) ρ' p → Owns (wipe σ tg.slots) (wipeE ρ1 tg.slots) p) ∧
        S' D = true ∧ Hc D = some (.dK us) ∧ ks = us.map (fun kv => keyD kv.1) ∧ DqA X.K (hid S' Hc) (us.map (·.2)) vs ∧ dcompGo (ev c.cl test) (ev c.cl xk) (ev c.cl x) tg (items.drop i) ks vs ρ' = .ok ((ksF, vsF), ρF)) ?_ ?_ ?_ ?_
      · exact ⟨hide S1 D, _, [], [], [], fa.imp fun _ z => z.elim, enw.step0 fa, fun _ z => z, hide_same, upd_same, rfl, .nil, by simpa using hf⟩
      · rintro i Hc _ ⟨S', ρ', ks, vs, us, f, _⟩
        exact f.hid.trans hid_ext
      · rintro i v Hc Hc' hin ⟨S', ρ', ks, vs, us, f, enc, sbc, hSD, hHD, hks, hacc, hgo⟩ y
        obtain ⟨d, e1, fy, hv⟩ := yd_fr f.dm f.hid y
        have edr : items.drop i = d :: items.drop (i + 1) := by
          have hi' : i < items.length := hin
          rw [List.getElem?_eq_getElem hi'] at e1
          cases e1
          exact List.drop_eq_getElem_cons hi'
        rw [edr] at hgo
        unfold dcompGo at hgo
        have hDn : ¬ Owns (wipe σ tg.slots) ρ' D := fun z => hDo (sbc D z)
        have ency := enc.step0 fy
        obtain ⟨hSD1, hHD1⟩ := fy.hidn D hSD fun z => z
        cases htg : tgGo tg d ρ' with
        | none => rw [htg] at hgo; cases hgo
        | some ρ2 =>
          rw [htg] at hgo
          simp only at hgo
          intro Y hY
          have hK := hY.K
          refine hg Y hY (wipe σ tg.slots) ρ' S' Hc' v d ρ2 _ (by rw [hK]; exact ency) (by rw [hK]; exact hv) htg fun σ2 z => ?_
          have enz := z.en
          rw [hK] at enz
          refine ⟨by rw [z.ag.wipe]; exact congrArg _ rfl |>.trans (by
            have : L2.wipe (L2.wipe σ tg.slots) tg.slots = L2.wipe σ tg.slots := by
              apply List.ext_getElem?
              intro j
              rw [wipe_get, wipe_get]
              by_cases hm : j ∈ tg.slots
              · rw [if_pos hm, if_pos hm]; cases σ[j]? <;> rfl
              · rw [if_neg hm, if_neg hm]
            exact this), fun Y2 hY2 => ?_⟩
          have hK2 := hY2.K
          have hDz : ¬ Owns σ2 ρ2 D := fun w => hDn (z.own D w)
          -- what a turn leaves
          have turn : ∀ (S3 : Hd) (H3 : Hp) (ρ3 : En) (ks' vs' : List PyData) (us' : List (Key × V)) (S4 : Hd) (H4 : Hp), Fr S' Hc' (Owns σ2 ρ2) S3 H3 → EnOk X.K S3 H3 σ2 ρ3 → Sub σ2 ρ2 ρ3 → (S4 = S3) → (H4 = H3 ∧ us' = us ∧ ks' = ks ∧ vs' = vs ∨ ∃ i y w, H4 = upd H3 D (.dK (putK us (.inl i) y)) ∧ us' = putK us (.inl i) y ∧ ks' = (putD i w ks vs).1 ∧ vs' = (putD i w ks vs).2 ∧ Dq X.K (hid S3 H3) y w) →
              dcompGo (ev c.cl test) (ev c.cl xk) (ev c.cl x) tg (items.drop (i + 1)) ks' vs' (wipeE ρ3 tg.slots) = .ok ((ksF, vsF), ρF) →
              ∃ S' ρ' ks vs us, Fr S1 H1 (Owns (wipe σ tg.slots) (wipeE ρ1 tg.slots)) S' H4 ∧ EnOk X.K S' H4 (wipe σ tg.slots) ρ' ∧ (∀ p, Owns (wipe σ tg.slots) ρ' p → Owns (wipe σ tg.slots) (wipeE ρ1 tg.slots) p) ∧
                S' D = true ∧ H4 D = some (.dK us) ∧ ks = us.map (fun kv => keyD kv.1) ∧ DqA X.K (hid S' H4) (us.map (·.2)) vs ∧ dcompGo (ev c.cl test) (ev c.cl xk) (ev c.cl x) tg (items.drop (i + 1)) ks vs ρ' = .ok ((ksF, vsF), ρF) := by
            intro S3 H3 ρ3 ks' vs' us' S4 H4 f3 en3 s3 e4 alt hgo'
            subst e4
            have own3 : ∀ p, Owns σ2 ρ3 p → Owns (wipe σ tg.slots) (wipeE ρ1 tg.slots) p := fun p w => sbc p (z.own p (s3 p w))
            have f13 : Fr S1 H1 (Owns (wipe σ tg.slots) (wipeE ρ1 tg.slots)) S4 H3 := (f.trans (fy.imp fun _ w => w.elim (C := False)) fun _ w => w.elim).trans f3 fun p w => .inl (sbc p (z.own p w))
            obtain ⟨q1, q2⟩ := f3.hidn D (by exact hSD1) hDz
            have hH3 : H3 D = some (.dK us) := q2.trans (hHD1.trans hHD)
            have hacc3 : DqA X.K (hid S4 H3) (us.map (·.2)) vs := (hacc.mono fy.hid).mono f3.hid
            obtain ⟨enw3, subw3⟩ := en_wipe en3 tg.slots
            have ew : L2.wipe σ2 tg.slots = L2.wipe σ tg.slots := by
              rw [z.ag.wipe]
              apply List.ext_getElem?
              intro j
              rw [wipe_get, wipe_get]
              by_cases hm : j ∈ tg.slots
              · rw [if_pos hm, if_pos hm]; cases σ[j]? <;> rfl
              · rw [if_neg hm, if_neg hm]
            rw [ew] at enw3 subw3
            rcases alt with ⟨rfl, rfl, rfl, rfl⟩ | ⟨iK, y, w, rfl, rfl, rfl, rfl, hy⟩
            · exact ⟨S4, _, _, _, _, f13, enw3, fun p w => own3 p (subw3 p w), q1, hH3, hks, hacc3, hgo'⟩
            · have fs : Fr S4 H3 (fun q => q = D) S4 (upd H3 D (.dK (putK us (.inl iK) y))) := Fr.store f3.dm rfl q1
              have hDw : ¬ Owns (wipe σ tg.slots) (wipeE ρ3 tg.slots) D := fun w => hDo (own3 D (subw3 D w))
              obtain ⟨pq1, pq2⟩ := put_dq (i := iK) hks hacc3 hy
              refine ⟨S4, _, _, _, _, f13.trans fs fun q e => .inr (by subst e; exact hD), enw3.step fs fun q w e => hDw (by subst e; exact w), fun p w => own3 p (subw3 p w), q1, upd_same, pq1, pq2.mono fs.hid, hgo'⟩
          refine ht Y2 hY2 ρ2 S' σ2 Hc' _ fy.dm (by rw [hK2]; exact enz) ?_
          rw [hK2]
          show PostT _ _ _ _ _ _ _ (ev c.cl test ρ2)
          cases het : ev c.cl test ρ2 with
          | bad => rw [het] at hgo; cases hgo
          | exc w ρ' => rw [het] at hgo; cases hgo
          | ok r =>
            obtain ⟨val, ρ3⟩ := r
            rw [het] at hgo
            cases val with
            | new ds => cases hgo
            | dat d3 =>
              cases d3 with
              | bool b =>
                intro S3 H3 f3 en3 s3
                cases b with
                | false =>
                  rw [if_neg Bool.false_ne_true]
                  exact turn S3 H3 ρ3 ks vs us S3 H3 f3 en3 s3 rfl (.inl ⟨rfl, rfl, rfl, rfl⟩) hgo
                | true =>
                  rw [if_pos rfl]
                  intro Y3 hY3
                  have hK3 := hY3.K
                  simp only at hgo
                  refine (hkx Y3 hY3).se ρ3 S3 σ2 H3 _ f3.dm (by rw [hK3]; exact en3) ?_
                  rw [hK3]
                  show PostG _ _ _ _ _ _ _ _ (ev c.cl xk ρ3)
                  cases hexk : ev c.cl xk ρ3 with
                  | bad => rw [hexk] at hgo; cases hgo
                  | exc w ρ' => rw [hexk] at hgo; cases hgo
                  | ok r =>
                    obtain ⟨vk, ρk⟩ := r
                    rw [hexk] at hgo
                    cases vk with
                    | new ds => cases hgo
                    | dat dk =>
                      cases dk with
                      | int iK =>
                        simp only at hgo
                        intro uk Sk Hk fk enk sk gk
                        have gk : Dq X.K (hid Sk Hk) uk (.int iK) := gk
                        cases gk
                        intro Y4 hY4
                        have hK4 := hY4.K
                        refine (he Y4 hY4).se.sd ρk Sk σ2 Hk _ fk.dm (by rw [hK4]; exact enk) ?_
                        rw [hK4]
                        show PostG _ _ _ _ _ _ _ _ ((ev c.cl x ρk).map _)
                        cases hex : ev c.cl x ρk with
                        | bad => rw [hex] at hgo; cases hgo
                        | exc w ρ' => rw [hex] at hgo; cases hgo
                        | ok r =>
                          obtain ⟨v4, ρ4⟩ := r
                          rw [hex] at hgo
                          simp only at hgo
                          intro u S4 H4 f4 en4 s4 g4
                          have f3k : Fr S' Hc' (Owns σ2 ρ2) Sk Hk := f3.trans fk fun p w => .inl (s3 p w)
                          have f34 : Fr S' Hc' (Owns σ2 ρ2) S4 H4 := f3k.trans f4 fun p w => .inl ((s3.trans sk) p w)
                          obtain ⟨q1, q2⟩ := f34.hidn D hSD1 hDz
                          have hH4 : H4 D = some (.dK us) := q2.trans (hHD1.trans hHD)
                          have hl : us.length ≤ big := by
                            have h1' := dcomp_len hgo
                            have h2' := putD_len iK v4.d ks vs
                            have h3' : ks.length = us.length := by rw [hks, List.length_map]
                            omega
                          refine ⟨us, .inl iK, rfl, hH4, Nat.lt_of_le_of_lt hl (by decide), ?_⟩
                          exact turn S4 H4 ρ4 _ _ _ S4 _ f34 en4 ((s3.trans sk).trans s4) rfl (.inr ⟨iK, u, v4.d, rfl, rfl, rfl, rfl, g4⟩) hgo
                      | _ => cases hgo
              | _ => cases hgo
      · rintro Hc ⟨S', ρ', ks, vs, us, f, enc, sbc, hSD, hHD, hks, hacc, hgo⟩
        rw [List.drop_length] at hgo
        unfold dcompGo at hgo
        cases hgo
        obtain ⟨enb, sbb⟩ := en_back en1 f enc sbc
        have f2 : Fr S H (Owns σ ρ) S' Hc := f1.trans f fun p w => .inl (s1 p (subw p w))
        refine ⟨D, .dK us, rfl, hHD, trivial, fun od => ?_⟩
        have hOb : ¬ Owns σ (backE ρ1 ρF tg.slots) D := fun w => own_some en1 (sbb D w) hD
        obtain ⟨S3, z1, z2, z3⟩ := dct_show0 (od := od) (f1.fresh hD) f2 enb hSD hOb hks hacc
        exact h1 (.ref D) S3 _ z1 z2 (s1.trans sbb) z3
    · rw [if_neg hz] at h1; exact h1.elim
theorem sx_dcp {own : List (Str × Nat)} (hc : X.calm = true) (hN : X.N.Nodup) (ok : BlkOk X.N X.env.scope scope own) (hv : own.map (·.2) = tg.slots) (hi : SI c X k tgE iter src)
    (hg : ∀ (s : Shared) (H : Hp) (C : Addr) (cl : List (Str × Addr)) (fp : List Addr), SG (X.blk s H scope (compEnvC scope cl C X.env) fp) tgE tg)
    (ht : ∀ (s : Shared) (H : Hp) (C : Addr) (cl : List (Str × Addr)) (fp : List Addr), STs (calm0 c) (X.blk s H scope (compEnvC scope cl C X.env) fp) ifs test)
    (hk : ∀ (s : Shared) (H : Hp) (C : Addr) (cl : List (Str × Addr)) (fp : List Addr), SX (calm0 c) (X.blk s H scope (compEnvC scope cl C X.env) fp) kx xk)
    (he : ∀ (s : Shared) (H : Hp) (C : Addr) (cl : List (Str × Addr)) (fp : List Addr), SX (calm0 c) (X.blk s H scope (compEnvC scope cl C X.env) fp) elt x) (hs : ∀ z, foldedSetIterable iter X.env z = pure z) :
    SX c X (.DictComp kx elt [⟨tgE, iter, ifs, 0⟩] scope pos) (.dcp k src tg test xk x) := by
  refine sx_of (fun ρ S σ H Q hd en hp => ?_) rfl
  have q := dc_sound (scope := scope) hi (fun Y hY => by obtain ⟨s, H, C, cl, fp, rfl⟩ := hY; exact hg s H C cl fp) (fun Y hY => by obtain ⟨s, H, C, cl, fp, rfl⟩ := hY; exact ht s H C cl fp) (fun Y hY => by obtain ⟨s, H, C, cl, fp, rfl⟩ := hY; exact hk s H C cl fp) (fun Y hY => by obtain ⟨s, H, C, cl, fp, rfl⟩ := hY; exact he s H C cl fp) hd en hp
  rw [← hv] at q
  refine we_lock (we_of (pe_dc hc hN pi_wi ok (fun s H C cl fp => ?_) (fun s H C cl fp => ?_) (fun s H C cl fp => ?_) (fun s H C cl fp => ?_) hs) q)
  · exact ⟨fun pins s' σ H' v u Q I r h => h _ ⟨s, H, C, cl, fp, rfl⟩ pins s' u I r⟩
  · exact ⟨fun pins s' σ H' Q I h => h _ ⟨s, H, C, cl, fp, rfl⟩ pins s' I⟩
  · exact ⟨fun pins s' σ H' Q I h => h _ ⟨s, H, C, cl, fp, rfl⟩ pins s' I⟩
  · exact ⟨fun pins s' σ H' Q I h => h _ ⟨s, H, C, cl, fp, rfl⟩ pins s' I⟩
end
end Iv
end

section
set_option Elab.async false
set_option linter.all false
set_option maxRecDepth 100000
set_option maxHeartbeats 4000000
/-! comprehensions of two fors; the truth of a value as a test -/
namespace Iv
open PySem L2

section
variable {c : Cc} {X : Cx} {e : Expr} {x : E}
/-- a test that is a value's truth -/
theorem st_tru (h : SX c X e x) (he : ∀ whole, isTrue e X.env whole = (do let v ← whole; standAt e.pos; holding [v] (truthy v))) : ST c X e (.tru x) := fun ρ S σ H Q hd en hp => by
  refine wt_of (pt_truth pe_we he) (h.sv ρ S σ H _ hd en ?_)
  have hp : PostT c X.K σ ρ S H Q (bnd (vwOf x ρ (ev c.cl x ρ)) fun d ρ1 => ofO ρ1 ((truD d).map fun b => Val.dat (.bool b))) := hp
  cases hr : vwOf x ρ (ev c.cl x ρ) with
  | bad => rw [hr] at hp; exact hp.elim
  | exc z ρ' => rw [hr] at hp; exact hp
  | ok r =>
    obtain ⟨d, ρ1⟩ := r
    rw [hr] at hp
    have hp : PostT c X.K σ ρ S H Q (ofO ρ1 ((truD d).map fun b => Val.dat (.bool b))) := hp
    intro v S1 H1 f1 en1 s1 g1
    have w : Dw X.K S1 H1 v d := VwOk.now g1 f1.dm en1
    cases d with
    | bool b =>
      rw [w.bool]
      exact ⟨b, rfl, hp S1 H1 f1 en1 s1⟩
    | int i =>
      rw [w.int]
      exact ⟨_, rfl, hp S1 H1 f1 en1 s1⟩
    | list ds =>
      obtain ⟨p, vs, rfl, h1, h2⟩ := w.lst
      have hl := h2.length
      refine ⟨!ds.isEmpty, .inl ⟨vs, SqL.of h1, ?_⟩, hp S1 H1 f1 en1 s1⟩
      cases vs <;> cases ds <;> first | rfl | (simp at hl)
    | tuple ds =>
      obtain ⟨p, vs, rfl, h1, h2, _⟩ := w.tup
      have hl := h2.length
      refine ⟨!ds.isEmpty, .inr (.inl ⟨vs, h1, ?_⟩), hp S1 H1 f1 en1 s1⟩
      cases vs <;> cases ds <;> first | rfl | (simp at hl)
    | _ => exact hp.elim
end

/-- a walk, whatever its turns are -/
theorem turns_it {J : It} {n : Nat} {G : Hp → Prop} {Y : Nat → Hp → V → Hp → Prop} (w : Walk J n G Y) {T : V → Hp → (Hp → Prop) → Prop} {H0 : Hp} {Qd : Hp → Prop} (Pv : Nat → Hp → Prop) (h0 : Pv 0 H0) (hG : ∀ i H, i ≤ n → Pv i H → G H)
    (hs : ∀ i x H H', i < n → Pv i H → Y i H x H' → T x H' (Pv (i + 1))) (hd : ∀ H, Pv n H → Qd H) :
    ∃ W : Nat → Nat → Hp → Prop, (∃ m, W 0 m H0) ∧ ∀ i m H, W i m H → (J.stop i H ∧ Qd H) ∨ (J.go i H ∧ ∃ Nx : Hp → Prop, (∀ H', Nx H' → ∃ m', m' < m ∧ W (i + 1) m' H') ∧ ∀ x H', J.yld i H x H' → T x H' Nx) := by
  refine ⟨fun i m H => m = n - i ∧ i ≤ n ∧ Pv i H, ⟨n, by simp, Nat.zero_le _, h0⟩, ?_⟩
  rintro i m H ⟨rfl, hi, p⟩
  have q := hG i H hi p
  by_cases hlt : i < n
  · refine .inr ⟨w.goes i H hlt q, Pv (i + 1), fun H' p' => ⟨n - (i + 1), by omega, rfl, hlt, p'⟩, fun x H' y => hs i x H H' hlt p (w.yields i H x H' hlt q y)⟩
  · have e : i = n := by omega
    subst e
    exact .inl ⟨w.stops H q, hd H p⟩
theorem wipe_sub {σ : St} {vs us : List Nat} (h : ∀ j ∈ us, j ∈ vs) : L2.wipe (L2.wipe σ us) vs = L2.wipe σ vs := by
  apply List.ext_getElem?
  intro j
  rw [wipe_get, wipe_get, wipe_get]
  by_cases hm : j ∈ vs
  · rw [if_pos hm, if_pos hm]
    by_cases hu : j ∈ us
    · rw [if_pos hu]; cases σ[j]? <;> rfl
    · rw [if_neg hu]
  · rw [if_neg hm, if_neg hm, if_neg fun z => hm (h j z)]
theorem Ag.wipes {σ σ1 : St} {vs us : List Nat} (a : Ag σ σ1 us) (h : ∀ j ∈ us, j ∈ vs) : L2.wipe σ1 vs = L2.wipe σ vs :=
  (show Ag σ σ1 vs from ⟨a.1, fun j hj => a.2 j fun z => hj (h j z)⟩).wipe
theorem drop_at {α : Type} {l : List α} {i : Nat} {d : α} (h : l[i]? = some d) : l.drop i = d :: l.drop (i + 1) := by
  have hi : i < l.length := (List.getElem?_eq_some_iff.mp h).1
  rw [List.getElem?_eq_getElem hi] at h
  cases h
  exact List.drop_eq_getElem_cons hi
/-- within the loops: O: what may change besides; D: the new list -/
def InL (K : PySem.W.Frag) (O : Addr → Prop) (Sb : Hd) (Hb : Hp) (D : Addr) (G : Hp) (σw : St) (go : List PyData → En → Prop) (Hc : Hp) : Prop :=
  ∃ (S' : Hd) (ρ' : En) (acc : List PyData) (us : List V), Fr Sb Hb O S' Hc ∧ EnOk K S' Hc σw ρ' ∧ (∀ p, Owns σw ρ' p → O p) ∧ S' D = true ∧ Hc D = some (.lst us) ∧ DqA K (hid S' Hc) us acc ∧ Ext G (hid S' Hc) ∧ go acc ρ'
theorem comp2_len {test : En → R En (Val × En)} {inner : List PyData → En → R En (List PyData × En)} {tg : Tg} {vs : List Nat} (hin : ∀ acc ρ acc1 ρ1, inner acc ρ = .ok (acc1, ρ1) → acc.length ≤ acc1.length) :
    ∀ {items acc : List PyData} {ρ : En} {ds : List PyData} {ρ' : En}, comp2Go test inner tg vs items acc ρ = .ok (ds, ρ') → acc.length ≤ ds.length
  | [], acc, ρ, ds, ρ', h => by cases h; exact Nat.le_refl _
  | x :: r, acc, ρ, ds, ρ', h => by
    unfold comp2Go at h
    split at h
    · cases h
    · split at h
      · split at h
        · rename_i h1
          exact Nat.le_trans (hin _ _ _ _ h1) (comp2_len hin h)
        · cases h
      · exact comp2_len hin h
      · cases h
section
variable {c : Cc} {X : Cx} {tgE iter elt tgE1 iter1 : Expr} {ifs ifs1 : List Expr} {scope : Scope} {k k1 : Src} {src test src1 test1 x : E} {tg tg1 : Tg} {pos : Pos}
def iB (X : Cx) (scope : Scope) (tgE iter : Expr) : TI := fun σ H R => ∀ Y, Bk X scope Y → WI Y tgE iter σ H R
/-- the inner loop -/
theorem in_loop (hg1 : ∀ Y, Bk X scope Y → SG Y tgE1 tg1) (ht1 : ∀ Y, Bk X scope Y → STs (calm0 c) Y ifs1 test1) (he : ∀ Y, Bk X scope Y → SX (calm0 c) Y elt x)
    {O : Addr → Prop} {Sb : Hd} {Hb : Hp} {D : Addr} {σ2 : St} {G : Hp} {J : It} {items : List PyData} {dsF : List PyData} {ρF : En} {H4 : Hp} {Qd : Hp → Prop} (hD : Hb D = none) (hDo : ¬ O D) (hz : dsF.length ≤ big) (g1 : DW X.K G tgE1 J items)
    (h0 : InL X.K O Sb Hb D G (wipe σ2 tg1.slots) (fun acc ρ' => compGo (ev c.cl test1) (ev c.cl x) tg1 items acc ρ' = .ok (dsF, ρF)) H4)
    (hd : ∀ Hc, InL X.K O Sb Hb D G (wipe σ2 tg1.slots) (fun acc ρ' => acc = dsF ∧ ρ' = ρF) Hc → Qd Hc) :
    ∃ W : Nat → Nat → Hp → Prop, (∃ m, W 0 m H4) ∧ ∀ i m H, W i m H → (J.stop i H ∧ Qd H) ∨ (J.go i H ∧ ∃ Nx : Hp → Prop, (∀ H', Nx H' → ∃ m', m' < m ∧ W (i + 1) m' H') ∧
      ∀ v H', J.yld i H v H' → gB X scope tgE1 v (wipe σ2 tg1.slots) H' fun σ3 H5 => wipe σ3 tg1.slots = wipe σ2 tg1.slots ∧ tB' X scope ifs1 σ3 H5 fun b H6 =>
        if b = true then eB X scope elt σ3 H6 fun y H7 => ∃ acc, H7 D = some (.lst acc) ∧ acc.length < sizeLine ∧ Nx (upd H7 D (.lst (acc ++ [y]))) else Nx H6) := by
  refine turns_it g1 (Pv := fun i Hc => InL X.K O Sb Hb D G (wipe σ2 tg1.slots) (fun acc ρ' => compGo (ev c.cl test1) (ev c.cl x) tg1 (items.drop i) acc ρ' = .ok (dsF, ρF)) Hc) h0 ?_ ?_ ?_
  · rintro i Hc _ ⟨S', ρ', acc, us, f, _, _, _, _, _, e, _⟩
    exact e.trans hid_ext
  · rintro i v Hc Hc' hin ⟨S', ρ', acc, us, f, enc, sbc, hSD, hHD, hacc, hex, hgo⟩ y
    obtain ⟨d, e1, fy, hv⟩ := yd_fr f.dm hex y
    have edr := drop_at e1
    rw [edr] at hgo
    unfold compGo at hgo
    have hDn : ¬ Owns (wipe σ2 tg1.slots) ρ' D := fun z => hDo (sbc D z)
    have ency := enc.step0 fy
    obtain ⟨hSD1, hHD1⟩ := fy.hidn D hSD fun z => z
    cases htg : tgGo tg1 d ρ' with
    | none => rw [htg] at hgo; cases hgo
    | some ρ2 =>
      rw [htg] at hgo
      simp only at hgo
      intro Y hY
      have hK := hY.K
      refine hg1 Y hY (wipe σ2 tg1.slots) ρ' S' Hc' v d ρ2 _ (by rw [hK]; exact ency) (by rw [hK]; exact hv) htg fun σ3 z => ?_
      have enz := z.en
      rw [hK] at enz
      have ew : L2.wipe σ3 tg1.slots = L2.wipe σ2 tg1.slots := z.ag.wipe.trans (wipe_sub fun _ h => h)
      refine ⟨ew, fun Y2 hY2 => ?_⟩
      have hK2 := hY2.K
      have hDz : ¬ Owns σ3 ρ2 D := fun w => hDn (z.own D w)
      have turn : ∀ (S3 : Hd) (H3 : Hp) (ρ3 : En) (acc' : List PyData) (us' : List V) (H4 : Hp), Fr S' Hc' (Owns σ3 ρ2) S3 H3 → EnOk X.K S3 H3 σ3 ρ3 → Sub σ3 ρ2 ρ3 → (H4 = H3 ∧ us' = us ∧ acc' = acc ∨ ∃ y w, H4 = upd H3 D (.lst (us ++ [y])) ∧ us' = us ++ [y] ∧ acc' = acc ++ [w] ∧ Dq X.K (hid S3 H3) y w) →
          compGo (ev c.cl test1) (ev c.cl x) tg1 (items.drop (i + 1)) acc' (wipeE ρ3 tg1.slots) = .ok (dsF, ρF) →
          InL X.K O Sb Hb D G (wipe σ2 tg1.slots) (fun acc ρ' => compGo (ev c.cl test1) (ev c.cl x) tg1 (items.drop (i + 1)) acc ρ' = .ok (dsF, ρF)) H4 := by
        intro S3 H3 ρ3 acc' us' H4 f3 en3 s3 alt hgo'
        have own3 : ∀ p, Owns σ3 ρ3 p → O p := fun p w => sbc p (z.own p (s3 p w))
        have f13 : Fr Sb Hb O S3 H3 := (f.trans (fy.imp fun _ w => w.elim (C := False)) fun _ w => w.elim).trans f3 fun p w => .inl (sbc p (z.own p w))
        obtain ⟨q1, q2⟩ := f3.hidn D (by exact hSD1) hDz
        have hH3 : H3 D = some (.lst us) := q2.trans (hHD1.trans hHD)
        have hacc3 : DqA X.K (hid S3 H3) us acc := (hacc.mono fy.hid).mono f3.hid
        have hex3 : Ext G (hid S3 H3) := (hex.trans fy.hid).trans f3.hid
        obtain ⟨enw3, subw3⟩ := en_wipe en3 tg1.slots
        rw [ew] at enw3 subw3
        rcases alt with ⟨rfl, rfl, rfl⟩ | ⟨y, w, rfl, rfl, rfl, hy⟩
        · exact ⟨S3, _, _, _, f13, enw3, fun p w => own3 p (subw3 p w), q1, hH3, hacc3, hex3, hgo'⟩
        · have fs : Fr S3 H3 (fun q => q = D) S3 (upd H3 D (.lst (us ++ [y]))) := Fr.store f3.dm rfl q1
          have hDw : ¬ Owns (wipe σ2 tg1.slots) (wipeE ρ3 tg1.slots) D := fun w => hDo (own3 D (subw3 D w))
          exact ⟨S3, _, _, _, f13.trans fs fun q e => .inr (by subst e; exact hD), enw3.step fs fun q w e => hDw (by subst e; exact w), fun p w => own3 p (subw3 p w), q1, upd_same, ((hacc3.append (.cons hy .nil)).mono fs.hid), hex3.trans fs.hid, hgo'⟩
      refine ht1 Y2 hY2 ρ2 S' σ3 Hc' _ fy.dm (by rw [hK2]; exact enz) ?_
      rw [hK2]
      show PostT _ _ _ _ _ _ _ (ev c.cl test1 ρ2)
      cases het : ev c.cl test1 ρ2 with
      | bad => rw [het] at hgo; cases hgo
      | exc w ρ' => rw [het] at hgo; cases hgo
      | ok r =>
        obtain ⟨val, ρ3⟩ := r
        rw [het] at hgo
        cases val with
        | new ds => cases hgo
        | dat d3 =>
          cases d3 with
          | bool b =>
            intro S3 H3 f3 en3 s3
            cases b with
            | false =>
              rw [if_neg Bool.false_ne_true]
              exact turn S3 H3 ρ3 acc us H3 f3 en3 s3 (.inl ⟨rfl, rfl, rfl⟩) hgo
            | true =>
              rw [if_pos rfl]
              intro Y3 hY3
              have hK3 := hY3.K
              simp only at hgo
              refine (he Y3 hY3).se.sd ρ3 S3 σ3 H3 _ f3.dm (by rw [hK3]; exact en3) ?_
              rw [hK3]
              show PostG _ _ _ _ _ _ _ _ ((ev c.cl x ρ3).map _)
              cases hex' : ev c.cl x ρ3 with
              | bad => rw [hex'] at hgo; cases hgo
              | exc w ρ' => rw [hex'] at hgo; cases hgo
              | ok r =>
                obtain ⟨v4, ρ4⟩ := r
                rw [hex'] at hgo
                simp only at hgo
                intro u S4 H4 f4 en4 s4 g4
                have f34 : Fr S' Hc' (Owns σ3 ρ2) S4 H4 := f3.trans f4 fun p w => .inl (s3 p w)
                obtain ⟨q1, q2⟩ := f34.hidn D hSD1 hDz
                have hH4 : H4 D = some (.lst us) := q2.trans (hHD1.trans hHD)
                have hl : us.length ≤ big := by
                  have := comp_len hgo
                  rw [List.length_append] at this
                  have e2 := hacc.length
                  simp at this
                  omega
                refine ⟨us, hH4, Nat.lt_of_le_of_lt hl (by decide), ?_⟩
                exact turn S4 H4 ρ4 (acc ++ [v4.d]) (us ++ [u]) _ f34 en4 (s3.trans s4) (.inr ⟨u, v4.d, rfl, rfl, rfl, g4⟩) hgo
          | _ => cases hgo
  · rintro Hc ⟨S', ρ', acc, us, f, enc, sbc, hSD, hHD, hacc, hex, hgo⟩
    rw [List.drop_length] at hgo
    unfold compGo at hgo
    cases hgo
    exact hd Hc ⟨S', ρF, dsF, us, f, enc, sbc, hSD, hHD, hacc, hex, rfl, rfl⟩
theorem lc2_sound (hi : SI c X k tgE iter src) (hg : ∀ Y, Bk X scope Y → SG Y tgE tg) (ht : ∀ Y, Bk X scope Y → STs (calm0 c) Y ifs test) (hi1 : ∀ Y, Bk X scope Y → SI (calm0 c) Y k1 tgE1 iter1 src1)
    (hg1 : ∀ Y, Bk X scope Y → SG Y tgE1 tg1) (ht1 : ∀ Y, Bk X scope Y → STs (calm0 c) Y ifs1 test1) (he : ∀ Y, Bk X scope Y → SX (calm0 c) Y elt x)
    {ρ : En} {S : Hd} {σ : St} {H : Hp} {Q : VK} (hd : Dm S H) (en : EnOk X.K S H σ ρ) (hp : PostG c X.K σ ρ S H (GE X.K σ H) Q (ev c.cl (.comp2 k src tg test k1 src1 tg1 test1 x) ρ)) :
    tLc2 (WI X tgE iter) (gB X scope tgE) (tB' X scope ifs) (iB X scope tgE1 iter1) (gB X scope tgE1) (tB' X scope ifs1) (eB X scope elt) (tg.slots ++ tg1.slots) tg1.slots σ H Q := by
  have hmt : ∀ j ∈ tg.slots, j ∈ tg.slots ++ tg1.slots := fun j h => List.mem_append_left _ h
  have hmt1 : ∀ j ∈ tg1.slots, j ∈ tg.slots ++ tg1.slots := fun j h => List.mem_append_right _ h
  generalize hvs : tg.slots ++ tg1.slots = vs at hmt hmt1
  generalize hinn : (fun acc ρ2 => bnd (evs c.cl src1 ρ2) fun as1 ρ3 => match (argsD as1).bind (srcD k1) with
        | some items1 => compGo (ev c.cl test1) (ev c.cl x) tg1 items1 acc (wipeE ρ3 tg1.slots)
        | none => .bad : List PyData → En → R En (List PyData × En)) = inner
  have hlin : ∀ acc ρ acc1 ρ1, inner acc ρ = .ok (acc1, ρ1) → acc.length ≤ acc1.length := by
    intro acc ρ acc1 ρ1 h
    rw [← hinn] at h
    simp only at h
    cases hr : evs c.cl src1 ρ with
    | bad => rw [hr] at h; cases h
    | exc z ρ' => rw [hr] at h; cases h
    | ok r =>
      obtain ⟨as, ρ'⟩ := r
      rw [hr] at h
      simp only [bnd] at h
      split at h
      · exact comp_len h
      · cases h
  have eq1 : ev c.cl (.comp2 k src tg test k1 src1 tg1 test1 x) ρ = bnd (bnd (evs c.cl src ρ) fun as ρ1 => ofO ρ1 ((argsD as).bind (srcD k))) fun items ρ1 =>
      match comp2Go (ev c.cl test) inner tg vs items [] (wipeE ρ1 vs) with
      | .ok (ds, ρ2) => if ds.length ≤ big then .ok (.new ds, backE ρ1 ρ2 vs) else .bad
      | _ => .bad := by
    rw [← hinn, ← hvs]
    show bnd (evs c.cl src ρ) _ = _
    cases hr : evs c.cl src ρ with
    | bad => rfl
    | exc z ρ' => rfl
    | ok r =>
      obtain ⟨as, ρ1⟩ := r
      cases hq : (argsD as).bind (srcD k) with
      | none => simp only [bnd, hq, ofO]
      | some items =>
        simp only [bnd, hq, ofO]
        all_goals rfl
  rw [eq1] at hp
  refine hi ρ S σ H _ hd en (post_bnd hp fun items ρ1 h1 J S1 H1 f1 en1 s1 g1 => ?_)
  intro D hD
  cases hf : comp2Go (ev c.cl test) inner tg vs items [] (wipeE ρ1 vs) with
  | bad => rw [hf] at h1; exact h1.elim
  | exc z ρ' => rw [hf] at h1; exact h1.elim
  | ok r =>
    obtain ⟨dsF, ρF⟩ := r
    rw [hf] at h1
    have h1 : PostG c X.K σ ρ S H (GE X.K σ H) Q (if dsF.length ≤ big then .ok (.new dsF, backE ρ1 ρF vs) else .bad) := h1
    by_cases hz : dsF.length ≤ big
    · rw [if_pos hz] at h1
      obtain ⟨enw, subw⟩ := en_wipe en1 vs
      have hDo : ¬ Owns (wipe σ vs) (wipeE ρ1 vs) D := fun z => by
        obtain ⟨j, s, hj, oj, ej⟩ := subw D z
        have q := en1.slot j s hj
        cases s with
        | no => cases oj
        | dat d => cases oj
        | own ds =>
          obtain ⟨p, us, e1, _, e3, _⟩ := q
          rw [ej] at e1; cases e1
          rw [hD] at e3; cases e3
        | lock ds =>
          obtain ⟨p, us, e1, _, e3, _⟩ := q
          rw [ej] at e1; cases e1
          rw [hD] at e3; cases e3
      have fa : Fr S1 H1 (fun _ => False) (hide S1 D) (upd H1 D (.lst [])) := Fr.allocH f1.dm hD
      refine turns_it g1 (Pv := fun i Hc => InL X.K (Owns (wipe σ vs) (wipeE ρ1 vs)) S1 H1 D (hid S1 H1) (wipe σ vs) (fun acc ρ' => comp2Go (ev c.cl test) inner tg vs (items.drop i) acc ρ' = .ok (dsF, ρF)) Hc) ?_ ?_ ?_ ?_
      · exact ⟨hide S1 D, _, [], [], fa.imp fun _ z => z.elim, enw.step0 fa, fun _ z => z, hide_same, upd_same, .nil, fa.hid, by simpa using hf⟩
      · rintro i Hc _ ⟨S', ρ', acc, us, f, _⟩
        exact f.hid.trans hid_ext
      · rintro i v Hc Hc' hin ⟨S', ρ', acc, us, f, enc, sbc, hSD, hHD, hacc, hex, hgo⟩ y
        obtain ⟨d, e1, fy, hv⟩ := yd_fr f.dm hex y
        have edr := drop_at e1
        rw [edr] at hgo
        unfold comp2Go at hgo
        have hDn : ¬ Owns (wipe σ vs) ρ' D := fun z => hDo (sbc D z)
        have ency := enc.step0 fy
        obtain ⟨hSD1, hHD1⟩ := fy.hidn D hSD fun z => z
        cases htg : tgGo tg d ρ' with
        | none => rw [htg] at hgo; cases hgo
        | some ρ2 =>
          rw [htg] at hgo
          simp only at hgo
          intro Y hY
          have hK := hY.K
          refine hg Y hY (wipe σ vs) ρ' S' Hc' v d ρ2 _ (by rw [hK]; exact ency) (by rw [hK]; exact hv) htg fun σ2 z => ?_
          have enz := z.en
          rw [hK] at enz
          have ew : L2.wipe σ2 vs = L2.wipe σ vs := (z.ag.wipes hmt).trans (wipe_sub fun _ h => h)
          refine ⟨ew, fun Y2 hY2 => ?_⟩
          have hK2 := hY2.K
          have hDz : ¬ Owns σ2 ρ2 D := fun w => hDn (z.own D w)
          refine ht Y2 hY2 ρ2 S' σ2 Hc' _ fy.dm (by rw [hK2]; exact enz) ?_
          rw [hK2]
          show PostT _ _ _ _ _ _ _ (ev c.cl test ρ2)
          cases het : ev c.cl test ρ2 with
          | bad => rw [het] at hgo; cases hgo
          | exc w ρ' => rw [het] at hgo; cases hgo
          | ok r =>
            obtain ⟨val, ρ3⟩ := r
            rw [het] at hgo
            cases val with
            | new ds => cases hgo
            | dat d3 =>
              cases d3 with
              | bool b =>
                intro S3 H3 f3 en3 s3
                have own3 : ∀ p, Owns σ2 ρ3 p → Owns (wipe σ vs) (wipeE ρ1 vs) p := fun p w => sbc p (z.own p (s3 p w))
                have f13 : Fr S1 H1 (Owns (wipe σ vs) (wipeE ρ1 vs)) S3 H3 := (f.trans (fy.imp fun _ w => w.elim (C := False)) fun _ w => w.elim).trans f3 fun p w => .inl (sbc p (z.own p w))
                obtain ⟨q1, q2⟩ := f3.hidn D (by exact hSD1) hDz
                have hH3 : H3 D = some (.lst us) := q2.trans (hHD1.trans hHD)
                have hacc3 : DqA X.K (hid S3 H3) us acc := (hacc.mono fy.hid).mono f3.hid
                have hex3 : Ext (hid S1 H1) (hid S3 H3) := f13.hid
                cases b with
                | false =>
                  rw [if_neg Bool.false_ne_true]
                  obtain ⟨enw3, subw3⟩ := en_wipe en3 vs
                  rw [ew] at enw3 subw3
                  exact ⟨S3, _, _, _, f13, enw3, fun p w => own3 p (subw3 p w), q1, hH3, hacc3, hex3, hgo⟩
                | true =>
                  rw [if_pos rfl]
                  intro Y3 hY3
                  have hK3 := hY3.K
                  simp only at hgo
                  cases hin3 : inner acc ρ3 with
                  | bad => rw [hin3] at hgo; cases hgo
                  | exc w ρ' => rw [hin3] at hgo; cases hgo
                  | ok r =>
                    obtain ⟨acc1, ρ4⟩ := r
                    rw [hin3] at hgo
                    simp only at hgo
                    have hz1 : acc1.length ≤ big := Nat.le_trans (comp2_len hlin hgo) hz
                    rw [← hinn] at hin3
                    simp only at hin3
                    refine hi1 Y3 hY3 ρ3 S3 σ2 H3 _ f3.dm (by rw [hK3]; exact en3) ?_
                    rw [hK3]
                    show PostG _ _ _ _ _ _ _ _ (bnd (evs c.cl src1 ρ3) _)
                    cases her : evs c.cl src1 ρ3 with
                    | bad => rw [her] at hin3; cases hin3
                    | exc w ρ' => rw [her] at hin3; cases hin3
                    | ok r =>
                      obtain ⟨as1, ρ5⟩ := r
                      rw [her] at hin3
                      simp only [bnd] at hin3 ⊢
                      cases hsr : (argsD as1).bind (srcD k1) with
                      | none => rw [hsr] at hin3; cases hin3
                      | some items1 =>
                        rw [hsr] at hin3
                        simp only at hin3
                        intro J1 S5 H5 f5 en5 s5 g5
                        have g5 : DW X.K (hid S5 H5) tgE1 J1 items1 := g5
                        have hDz5 : ¬ Owns σ2 ρ3 D := fun w => hDz (s3 D w)
                        obtain ⟨q3, q4⟩ := f5.hidn D q1 hDz5
                        obtain ⟨enw5, subw5⟩ := en_wipe en5 tg1.slots
                        have f15 : Fr S1 H1 (Owns (wipe σ vs) (wipeE ρ1 vs)) S5 H5 := f13.trans f5 fun p w => .inl (own3 p w)
                        refine in_loop hg1 ht1 he (O := Owns (wipe σ vs) (wipeE ρ1 vs)) (Sb := S1) (Hb := H1) (D := D) (dsF := acc1) (ρF := ρ4) hD hDo hz1 g5
                          ⟨S5, _, acc, us, f15, enw5, fun p w => own3 p (s5 p (subw5 p w)), q3, q4.trans hH3, hacc3.mono f5.hid, fun _ _ h => h, hin3⟩ ?_
                        rintro Hd ⟨S6, ρ6, acc6, us6, f6, en6, sb6, hS6, hH6, hacc6, _, rfl, rfl⟩
                        obtain ⟨enw6, subw6⟩ := en_wipe en6 vs
                        have ew6 : L2.wipe (L2.wipe σ2 tg1.slots) vs = L2.wipe σ vs := (wipe_sub hmt1).trans ew
                        rw [ew6] at enw6 subw6
                        exact ⟨S6, _, _, us6, f6, enw6, fun p w => sb6 p (subw6 p w), hS6, hH6, hacc6, f6.hid, hgo⟩
              | _ => cases hgo
      · rintro Hc ⟨S', ρ', acc, us, f, enc, sbc, hSD, hHD, hacc, _, hgo⟩
        rw [List.drop_length] at hgo
        unfold comp2Go at hgo
        cases hgo
        obtain ⟨enb, sbb⟩ := en_back en1 f enc sbc
        have f2 : Fr S H (Owns σ ρ) S' Hc := f1.trans f fun p w => .inl (s1 p (subw p w))
        refine h1 (.ref D) S' Hc f2 enb (s1.trans sbb) ⟨D, us, rfl, hSD, hHD, hacc, fun w => ?_, f1.fresh hD⟩
        have w2 := sbb D w
        obtain ⟨j, s, hj, oj, ej⟩ := w2
        have q := en1.slot j s hj
        cases s with
        | no => cases oj
        | dat d => cases oj
        | own ds =>
          obtain ⟨p, us, e1, _, e3, _⟩ := q
          rw [ej] at e1; cases e1
          rw [hD] at e3; cases e3
        | lock ds =>
          obtain ⟨p, us, e1, _, e3, _⟩ := q
          rw [ej] at e1; cases e1
          rw [hD] at e3; cases e3
    · rw [if_neg hz] at h1; exact h1.elim
theorem sx_comp2 {own : List (Str × Nat)} (hc : X.calm = true) (hN : X.N.Nodup) (ok : BlkOk X.N X.env.scope scope own) (hv : own.map (·.2) = tg.slots ++ tg1.slots) (hi : SI c X k tgE iter src)
    (hg : ∀ (s : Shared) (H : Hp) (C : Addr) (cl : List (Str × Addr)) (fp : List Addr), SG (X.blk s H scope (compEnvC scope cl C X.env) fp) tgE tg)
    (ht : ∀ (s : Shared) (H : Hp) (C : Addr) (cl : List (Str × Addr)) (fp : List Addr), STs (calm0 c) (X.blk s H scope (compEnvC scope cl C X.env) fp) ifs test)
    (hi1 : ∀ (s : Shared) (H : Hp) (C : Addr) (cl : List (Str × Addr)) (fp : List Addr), SI (calm0 c) (X.blk s H scope (compEnvC scope cl C X.env) fp) k1 tgE1 iter1 src1)
    (hg1 : ∀ (s : Shared) (H : Hp) (C : Addr) (cl : List (Str × Addr)) (fp : List Addr), SG (X.blk s H scope (compEnvC scope cl C X.env) fp) tgE1 tg1)
    (ht1 : ∀ (s : Shared) (H : Hp) (C : Addr) (cl : List (Str × Addr)) (fp : List Addr), STs (calm0 c) (X.blk s H scope (compEnvC scope cl C X.env) fp) ifs1 test1)
    (he : ∀ (s : Shared) (H : Hp) (C : Addr) (cl : List (Str × Addr)) (fp : List Addr), SX (calm0 c) (X.blk s H scope (compEnvC scope cl C X.env) fp) elt x) (hs : ∀ z, foldedSetIterable iter X.env z = pure z) (hs1 : ∀ env z, foldedSetIterable iter1 env z = pure z) :
    SX c X (.ListComp elt [⟨tgE, iter, ifs, 0⟩, ⟨tgE1, iter1, ifs1, 0⟩] scope pos) (.comp2 k src tg test k1 src1 tg1 test1 x) := by
  refine sx_of (fun ρ S σ H Q hd en hp => ?_) rfl
  have q := lc2_sound (scope := scope) hi (fun Y hY => by obtain ⟨s, H, C, cl, fp, rfl⟩ := hY; exact hg s H C cl fp) (fun Y hY => by obtain ⟨s, H, C, cl, fp, rfl⟩ := hY; exact ht s H C cl fp) (fun Y hY => by obtain ⟨s, H, C, cl, fp, rfl⟩ := hY; exact hi1 s H C cl fp) (fun Y hY => by obtain ⟨s, H, C, cl, fp, rfl⟩ := hY; exact hg1 s H C cl fp) (fun Y hY => by obtain ⟨s, H, C, cl, fp, rfl⟩ := hY; exact ht1 s H C cl fp) (fun Y hY => by obtain ⟨s, H, C, cl, fp, rfl⟩ := hY; exact he s H C cl fp) hd en hp
  rw [← hv] at q
  refine we_of (pe_lc2 hc hN pi_wi ok (fun i hi => by rw [hv]; exact List.mem_append_right _ hi) (fun s H C cl fp => ?_) (fun s H C cl fp => ?_) (fun s H C cl fp => ?_) (fun s H C cl fp => ?_) (fun s H C cl fp => ?_) (fun s H C cl fp => ?_) hs hs1) q
  · exact ⟨fun pins s' σ H' v u Q I r h => h _ ⟨s, H, C, cl, fp, rfl⟩ pins s' u I r⟩
  · exact ⟨fun pins s' σ H' Q I h => h _ ⟨s, H, C, cl, fp, rfl⟩ pins s' I⟩
  · exact ⟨fun pins s' σ H' R I h => h _ ⟨s, H, C, cl, fp, rfl⟩ pins s' I⟩
  · exact ⟨fun pins s' σ H' v u Q I r h => h _ ⟨s, H, C, cl, fp, rfl⟩ pins s' u I r⟩
  · exact ⟨fun pins s' σ H' Q I h => h _ ⟨s, H, C, cl, fp, rfl⟩ pins s' I⟩
  · exact ⟨fun pins s' σ H' Q I h => h _ ⟨s, H, C, cl, fp, rfl⟩ pins s' I⟩
/-- y = [..], y a plain local -/
theorem ss_setLc2 {P : List Nat} {i : Nat} {y : Str} {py spos : Pos} {own : List (Str × Nat)} (hc : X.calm = true) (hN : X.N.Nodup) (hy : X.N[i]? = some y) (hyl : X.env.scope.names.lookup y = some .local) (hsw : swapsWith (.ListComp elt [⟨tgE, iter, ifs, 0⟩, ⟨tgE1, iter1, ifs1, 0⟩] scope pos) (some (.Name y py)) spos.line X.env = pure true)
    (ok : BlkOk X.N X.env.scope scope own) (hv : own.map (·.2) = tg.slots ++ tg1.slots) (hi : SI c X k tgE iter src)
    (hg : ∀ (s : Shared) (H : Hp) (C : Addr) (cl : List (Str × Addr)) (fp : List Addr), SG (X.blk s H scope (compEnvC scope cl C X.env) fp) tgE tg)
    (ht : ∀ (s : Shared) (H : Hp) (C : Addr) (cl : List (Str × Addr)) (fp : List Addr), STs (calm0 c) (X.blk s H scope (compEnvC scope cl C X.env) fp) ifs test)
    (hi1 : ∀ (s : Shared) (H : Hp) (C : Addr) (cl : List (Str × Addr)) (fp : List Addr), SI (calm0 c) (X.blk s H scope (compEnvC scope cl C X.env) fp) k1 tgE1 iter1 src1)
    (hg1 : ∀ (s : Shared) (H : Hp) (C : Addr) (cl : List (Str × Addr)) (fp : List Addr), SG (X.blk s H scope (compEnvC scope cl C X.env) fp) tgE1 tg1)
    (ht1 : ∀ (s : Shared) (H : Hp) (C : Addr) (cl : List (Str × Addr)) (fp : List Addr), STs (calm0 c) (X.blk s H scope (compEnvC scope cl C X.env) fp) ifs1 test1)
    (he : ∀ (s : Shared) (H : Hp) (C : Addr) (cl : List (Str × Addr)) (fp : List Addr), SX (calm0 c) (X.blk s H scope (compEnvC scope cl C X.env) fp) elt x) (hs : ∀ z, foldedSetIterable iter X.env z = pure z) (hs1 : ∀ env z, foldedSetIterable iter1 env z = pure z) :
    SS c X P (.Assign [.Name y py] (.ListComp elt [⟨tgE, iter, ifs, 0⟩, ⟨tgE1, iter1, ifs1, 0⟩] scope pos) spos) (.set i (.comp2 k src tg test k1 src1 tg1 test1 x)) := by
  refine ss_set (T := tLc2 (WI X tgE iter) (gB X scope tgE) (tB' X scope ifs) (iB X scope tgE1 iter1) (gB X scope tgE1) (tB' X scope ifs1) (eB X scope elt) (own.map (·.2)) tg1.slots) (ps_setLc2 hc hN hy hyl hsw pi_wi ok (fun i hi => by rw [hv]; exact List.mem_append_right _ hi) (fun s H C cl fp => ?_) (fun s H C cl fp => ?_) (fun s H C cl fp => ?_) (fun s H C cl fp => ?_) (fun s H C cl fp => ?_) (fun s H C cl fp => ?_) hs hs1) fun ρ S σ H Q hd en hp => ?_
  · exact ⟨fun pins s' σ H' v u Q I r h => h _ ⟨s, H, C, cl, fp, rfl⟩ pins s' u I r⟩
  · exact ⟨fun pins s' σ H' Q I h => h _ ⟨s, H, C, cl, fp, rfl⟩ pins s' I⟩
  · exact ⟨fun pins s' σ H' R I h => h _ ⟨s, H, C, cl, fp, rfl⟩ pins s' I⟩
  · exact ⟨fun pins s' σ H' v u Q I r h => h _ ⟨s, H, C, cl, fp, rfl⟩ pins s' u I r⟩
  · exact ⟨fun pins s' σ H' Q I h => h _ ⟨s, H, C, cl, fp, rfl⟩ pins s' I⟩
  · exact ⟨fun pins s' σ H' Q I h => h _ ⟨s, H, C, cl, fp, rfl⟩ pins s' I⟩
  · have q := lc2_sound (scope := scope) hi (fun Y hY => by obtain ⟨s, H, C, cl, fp, rfl⟩ := hY; exact hg s H C cl fp) (fun Y hY => by obtain ⟨s, H, C, cl, fp, rfl⟩ := hY; exact ht s H C cl fp) (fun Y hY => by obtain ⟨s, H, C, cl, fp, rfl⟩ := hY; exact hi1 s H C cl fp) (fun Y hY => by obtain ⟨s, H, C, cl, fp, rfl⟩ := hY; exact hg1 s H C cl fp) (fun Y hY => by obtain ⟨s, H, C, cl, fp, rfl⟩ := hY; exact ht1 s H C cl fp) (fun Y hY => by obtain ⟨s, H, C, cl, fp, rfl⟩ := hY; exact he s H C cl fp) hd en hp
    rw [← hv] at q
    exact q
end
/-! displays of constants -/
def constAll (f : Expr → Option E) : List Expr → Option E
  | [] => some .nil
  | e :: es => match f e, constAll f es with
    | some x, some y => some (.cons x y)
    | _, _ => none
def constE : Nat → Expr → Option E
  | 0, _ => none
  | n + 1, e => match e with
    | .Constant (.int i) _ _ => some (.c (.int i))
    | .Constant (.bool i) _ _ => some (.c (.bool i))
    | .Constant .none _ _ => some (.c .none)
    | .UnaryOp .USub a _ => (constE n a).map .neg
    | .Tuple es _ _ => (constAll (constE n) es).map .tup
    | .List es _ => (constAll (constE n) es).map .lst
    | _ => none
section
variable {c : Cc} {X : Cx}
theorem constAll_ok {f : Expr → Option E} (hf : ∀ e x, f e = some x → SX c X e x ∧ isRef x = false ∧ ∀ es, starEach (e :: es) X.env = (false, eval e X.env) :: starEach es X.env) : ∀ (es : List Expr) (x : E), constAll f es = some x → SA c X es x
  | [], x, h => by cases h; exact sa_nil
  | e :: es, x, h => by
    unfold constAll at h
    cases h1 : f e with
    | none => rw [h1] at h; cases h
    | some y =>
      cases h2 : constAll f es with
      | none => rw [h1, h2] at h; cases h
      | some z =>
        rw [h1, h2] at h
        cases h
        obtain ⟨a1, a2, a3⟩ := hf e y h1
        exact sa_cons a1 (constAll_ok hf es z h2) a2 (a3 es)
theorem const_all : ∀ (n : Nat) (e : Expr) (x : E), constE n e = some x → SX c X e x ∧ isRef x = false ∧ ∀ es, starEach (e :: es) X.env = (false, eval e X.env) :: starEach es X.env
  | 0, e, x, h => by cases h
  | n + 1, e, x, h => by
    unfold constE at h
    split at h
    · cases h; exact ⟨sx_int, rfl, fun _ => rfl⟩
    · cases h; exact ⟨sx_bool, rfl, fun _ => rfl⟩
    · cases h; exact ⟨sx_none, rfl, fun _ => rfl⟩
    · rename_i a p
      cases h1 : constE n a with
      | none => rw [h1] at h; cases h
      | some y =>
        rw [h1] at h
        cases h
        exact ⟨sx_neg (const_all n a y h1).1, rfl, fun _ => rfl⟩
    · rename_i es k p
      cases h1 : constAll (constE n) es with
      | none => rw [h1] at h; cases h
      | some y =>
        rw [h1] at h
        cases h
        exact ⟨sx_tup (constAll_ok (const_all n) es y h1), rfl, fun _ => rfl⟩
    · rename_i es p
      cases h1 : constAll (constE n) es with
      | none => rw [h1] at h; cases h
      | some y =>
        rw [h1] at h
        cases h
        exact ⟨sx_lst (constAll_ok (const_all n) es y h1), rfl, fun _ => rfl⟩
    · cases h
theorem sx_konst {e : Expr} {x : E} (h : constE 20 e = some x) : SX c X e x := (const_all 20 e x h).1
end
/-! a body, statement by statement -/
abbrev noS : Stmt := .Pass ⟨0, 0, 0, 0⟩
section
variable {c : Cc} {X : Cx} {P : List Nat} {body : List Stmt} {i : Nat} {a b : C}
theorem drop_getD (h : i < body.length) : body.drop i = body.getD i noS :: body.drop (i + 1) := by
  rw [List.drop_eq_getElem_cons h, List.getD_eq_getElem?_getD, List.getElem?_eq_getElem h]
  rfl
/-- the same, shut: so that a term of it is not looked into -/
structure SSx (c : Cc) (X : Cx) (P : List Nat) (st : Stmt) (x : C) : Prop where
  go : SS c X P st x
structure SBx (c : Cc) (X : Cx) (P : List Nat) (st : List Stmt) (x : C) : Prop where
  go : SB' c X P st x
theorem sb_at (h : SSx c X P (body.getD i noS) a) (hr : SBx c X P (body.drop (i + 1)) b) (hi : i < body.length) : SBx c X P (body.drop i) (.seq a b) := by
  rw [drop_getD hi]
  exact ⟨sb_cons h.go hr.go⟩
theorem sb_last (h : SSx c X P (body.getD i noS) a) (hi : i < body.length) (hl : body.drop (i + 1) = []) : SBx c X P (body.drop i) a := by
  rw [drop_getD hi, hl]
  exact ⟨sb_one h.go⟩
theorem sb_all (h : SBx c X P (body.drop 0) b) : SBx c X P body b := by
  rw [List.drop_zero] at h
  exact h
end
end Iv
end

section
set_option Elab.async false
set_option linter.all false
set_option maxRecDepth 100000
set_option maxHeartbeats 4000000
/-! a call that only looks at the lists of the names that it is given -/
namespace Iv
open PySem L2
def plainV (σ : St) : E → Option (List V)
  | .nil => some []
  | .cons (.var j) r => match σ[j]? with
    | some (some v) => (plainV σ r).map (v :: ·)
    | _ => none
  | _ => none
/-- arguments that are names -/
structure SP (X : Cx) (es : List Expr) (x : E) : Prop where
  go : ∀ σ vs H Q, plainV σ x = some vs → Q vs H → WA X es σ H Q
section
variable {c : Cc} {X : Cx} {e a : Expr} {es : List Expr} {x : E} {pos p : Pos} {K : PySem.W.Frag} {σ : St} {ρ : En} {S : Hd} {H : Hp}
theorem sp_nil : SP X [] .nil := ⟨fun σ vs H Q e q => wa_of pa_nil (by cases e; exact q)⟩
theorem sp_var {j : Nat} (ha : PE X a (tVar j)) (hr : SP X es x) (hs : starEach (a :: es) X.env = (false, eval a X.env) :: starEach es X.env) : SP X (a :: es) (.cons (.var j) x) := by
  refine ⟨fun σ vs H Q e q => ?_⟩
  have e : (match σ[j]? with
    | some (some v) => (plainV σ x).map (v :: ·)
    | _ => none) = some vs := e
  cases hj : σ[j]? with
  | none => rw [hj] at e; cases e
  | some o =>
    cases o with
    | none => rw [hj] at e; cases e
    | some v =>
      rw [hj] at e
      simp only at e
      cases hv : plainV σ x with
      | none => rw [hv] at e; cases e
      | some us =>
        rw [hv] at e
        cases e
        exact wa_of (pa_cons ha pa_wa hs) ⟨v, hj, hr.go σ us H _ hv q⟩
theorem plain_ok (en : EnOk K S H σ ρ) : ∀ (x : E) (dd : List PyData), plainArgs ρ x = some dd →
    ∃ (vs : List V) (ps : List Addr), plainV σ x = some vs ∧ (∀ p ∈ ps, S p = true ∧ ∃ us, H p = some (.lst us)) ∧ ∀ S1 : Hd, (∀ a, S a = false → S1 a = false) → (∀ p ∈ ps, S1 p = false) → PArgsOk K S1 H vs (dd.map .d) [] := by
  intro x
  induction x with
  | nil =>
    intro dd e
    cases e
    exact ⟨[], [], rfl, (fun _ z => by cases z), fun _ _ _ => .nil⟩
  | cons a r _ ih =>
    intro dd e
    cases a with
    | var j =>
      have e : (match ρ[j]? with
        | some (.dat d) => (plainArgs ρ r).map (d :: ·)
        | some (.own ds) => (plainArgs ρ r).map (.list ds :: ·)
        | _ => none) = some dd := e
      cases hj : ρ[j]? with
      | none => rw [hj] at e; cases e
      | some s =>
        rw [hj] at e
        have q := en.slot j s hj
        cases s with
        | no => cases e
        | lock ds => cases e
        | dat d =>
          simp only at e
          cases hr : plainArgs ρ r with
          | none => rw [hr] at e; cases e
          | some de =>
            rw [hr] at e
            cases e
            obtain ⟨vs, ps, h1, h2, h3⟩ := ih de hr
            obtain ⟨v, e1, q⟩ := q
            refine ⟨v :: vs, ps, ?_, h2, fun S1 g1 g2 => .d (q.mono fun a o h => ?_) (h3 S1 g1 g2)⟩
            · show (match σ[j]? with
                | some (some v) => (plainV σ r).map (v :: ·)
                | _ => none) = _
              rw [e1]
              simp only [h1, Option.map_some]
            · obtain ⟨a1, a2⟩ := hid_of h
              exact hid_some (g1 a a1) a2
        | own ds =>
          simp only at e
          cases hr : plainArgs ρ r with
          | none => rw [hr] at e; cases e
          | some de =>
            rw [hr] at e
            cases e
            obtain ⟨vs, ps, h1, h2, h3⟩ := ih de hr
            obtain ⟨p, us, e1, e2, e3, e4⟩ := q
            refine ⟨.ref p :: vs, p :: ps, ?_, fun z hz => ?_, fun S1 g1 g2 => .d (.lst (hid_some (g2 p List.mem_cons_self) e3) (e4.mono fun a o h => ?_)) (h3 S1 g1 fun z hz => g2 z (List.mem_cons_of_mem _ hz))⟩
            · show (match σ[j]? with
                | some (some v) => (plainV σ r).map (v :: ·)
                | _ => none) = _
              rw [e1]
              simp only [h1, Option.map_some]
            · rcases List.mem_cons.mp hz with rfl | hz
              · exact ⟨e2, us, e3⟩
              · exact h2 z hz
            · obtain ⟨a1, a2⟩ := hid_of h
              exact hid_some (g1 a a1) a2
    | _ => cases e
  | _ => intro dd e; cases e
theorem dq_flat {S' : Hd} {H' G : Hp} {v : V} {d : PyData} (h : Dq K G v d) (hf : flat d = true) : Dq K (hid S' H') v d := by
  cases d with
  | none => cases h; exact .non
  | bool b => cases h; exact .bl b
  | int i => cases h; exact .int i
  | str z => cases h; exact .str z
  | list l => cases hf
  | tuple l => cases hf
  | dict l => cases hf
theorem sx_callb {f : Str} (hf : CallOk c X f) (hg : Gl X f) (hdb : (f == ("__debug__" : Str)) = false) (ha : SP X (a :: es) x) (he : starEach (a :: es) X.env = (false, eval a X.env) :: starEach es X.env) (hpl : (backTo pos (starEach es X.env)).any (·.1) = false) :
    SX c X (.Call (.Name f p) (a :: es) [] pos) (.callb f x) := by
  refine sx_of (fun ρ S σ H Q hd en hp => ?_) rfl
  obtain ⟨fa, hm, hk, run⟩ := hf
  intro pins s I
  have hp : PostG c X.K σ ρ S H (GE X.K σ H) Q (match plainArgs ρ x with
    | some dd => match c.cl f (dd.map .d) with
      | .ok (.dat v, []) => if flat v = true then .ok (.dat v, ρ) else .bad
      | _ => .bad
    | none => .bad) := hp
  cases hpa : plainArgs ρ x with
  | none => rw [hpa] at hp; exact hp.elim
  | some dd =>
    rw [hpa] at hp
    simp only at hp
    obtain ⟨vs, ps, h1, h2, h3⟩ := plain_ok en x dd hpa
    have sp : spO X.K c.cl c.ca f vs H Q (fun cls d H' => c.W cls d σ H') := by
      refine ⟨fun a => if a ∈ ps then false else S a, dd.map .d, [], ?_, ?_, List.nodup_nil, ?_⟩
      · intro a z
        by_cases hm : a ∈ ps
        · simp only [if_pos hm] at z; cases z
        · simp only [if_neg hm] at z; exact hd a z
      · refine h3 _ (fun a z => ?_) fun q hq => ?_
        · by_cases hm : a ∈ ps
          · simp only [if_pos hm]
          · simp only [if_neg hm]; exact z
        · simp only [if_pos hq]
      · cases hc : c.cl f (dd.map .d) with
        | bad => rw [hc] at hp; exact hp.elim
        | exc z dss => rw [hc] at hp; exact hp.elim
        | ok r =>
          obtain ⟨val, dss⟩ := r
          rw [hc] at hp
          cases val with
          | new ds => exact hp.elim
          | dat d =>
            cases dss with
            | cons _ _ => exact hp.elim
            | nil =>
              simp only at hp
              by_cases hfl : flat d = true
              · rw [if_pos hfl] at hp
                intro v S' H' f' _ pv
                have f2 : Fr S H (fun _ => False) (fun a => if a ∈ ps then true else S' a) H' := by
                  refine ⟨fun a o z1 z2 => ?_, f'.dom, fun a z1 _ => ?_, fun a z => ?_, hd, fun a z => ?_⟩
                  · have hm : a ∉ ps := fun hm => by rw [(h2 a hm).1] at z1; cases z1
                    obtain ⟨q1, q2⟩ := f'.keep a o (by simp only [if_neg hm]; exact z1) z2
                    exact ⟨by simp only [if_neg hm]; exact q1, q2⟩
                  · by_cases hm : a ∈ ps
                    · obtain ⟨_, us, hu⟩ := h2 a hm
                      obtain ⟨q1, q2⟩ := f'.keep a _ (by simp only [if_pos hm]) hu
                      exact ⟨by simp only [if_pos hm], q2.trans hu.symm⟩
                    · obtain ⟨q1, q2⟩ := f'.hidn a (by simp only [if_neg hm]; exact z1) (by simp)
                      exact ⟨by simp only [if_neg hm]; exact q1, q2⟩
                  · by_cases hm : a ∈ ps
                    · exact .inl (h2 a hm).1
                    · simp only [if_neg hm] at z
                      rcases f'.new a z with w | w
                      · simp only [if_neg hm] at w; exact .inl w
                      · exact .inr w
                  · by_cases hm : a ∈ ps
                    · obtain ⟨_, us, hu⟩ := h2 a hm
                      exact f'.dom a (by rw [hu]; simp)
                    · simp only [if_neg hm] at z
                      exact f'.dm a z
                refine hp v _ H' (f2.imp fun _ w => w.elim) (en.step0 f2) Sub.refl ?_
                exact dq_flat (show Dq X.K (hid S' H') v d from pv) hfl
              · rw [if_neg hfl] at hp; exact hp.elim
    have w : WA X (a :: es) σ H (fun vs H1 => spO X.K c.cl c.ca f vs H1 Q (fun cls d H' => c.W cls d σ H')) := ha.go σ vs H _ h1 sp
    refine wpAny_Call_Name_kw (ld_glob I hg hm ?_ hdb)
    refine PySem.W.callWith_K (h₀ := X.base) I.ok.mod.kin hk ?_ he hpl
    exact thn (w pos pins s I) fun us s1 ⟨vs, H1, I1, r, q⟩ => ⟨I1.kIn, run σ vs H1 Q q pins s1 us I1 r⟩
end
end Iv
end

section
set_option Elab.async false
set_option linter.all false
set_option maxRecDepth 100000
set_option maxHeartbeats 4000000
/-! sorted(set(t)), len(set(t)) -/
namespace Iv
open PySem L2
theorem insU_mem {i j : Int} : ∀ {l : List Int}, j ∈ insU i l ↔ j = i ∨ j ∈ l
  | [] => by simp [insU]
  | a :: r => by
    unfold insU
    split
    · simp
    · split
      · rename_i h; subst h; simp
      · simp only [List.mem_cons, insU_mem (l := r)]
        constructor
        · rintro (h | h | h)
          · exact .inr (.inl h)
          · exact .inl h
          · exact .inr (.inr h)
        · rintro (h | h | h)
          · exact .inr (.inl h)
          · exact .inl h
          · exact .inr (.inr h)
theorem usort_mem {j : Int} : ∀ {l : List Int}, j ∈ usortI l ↔ j ∈ l
  | [] => by simp [usortI]
  | a :: r => by
    show j ∈ insU a (usortI r) ↔ _
    rw [insU_mem, usort_mem (l := r), List.mem_cons]
theorem insU_asc {i : Int} : ∀ {l : List Int}, l.Pairwise (· < ·) → (insU i l).Pairwise (· < ·)
  | [], _ => by simp [insU]
  | a :: r, h => by
    have h' := List.pairwise_cons.mp h
    unfold insU
    split
    · rename_i hlt
      refine List.pairwise_cons.mpr ⟨fun b hb => ?_, h⟩
      rcases List.mem_cons.mp hb with rfl | hb
      · exact hlt
      · have := h'.1 b hb; omega
    · split
      · exact h
      · refine List.pairwise_cons.mpr ⟨fun b hb => ?_, insU_asc h'.2⟩
        rcases insU_mem.mp hb with rfl | hb
        · omega
        · exact h'.1 b hb
theorem usort_asc : ∀ l : List Int, (usortI l).Pairwise (· < ·)
  | [] => .nil
  | i :: r => insU_asc (usort_asc r)
theorem ascI_ext : ∀ {l r : List Int}, l.Pairwise (· < ·) → r.Pairwise (· < ·) → (∀ i, i ∈ l ↔ i ∈ r) → l = r
  | [], [], _, _, _ => rfl
  | [], b :: s, _, _, h => by have := (h b).mpr List.mem_cons_self; cases this
  | a :: l, [], _, _, h => by have := (h a).mp List.mem_cons_self; cases this
  | a :: l, b :: s, h1, h2, h => by
    have h1' := List.pairwise_cons.mp h1
    have h2' := List.pairwise_cons.mp h2
    have e : a = b := by
      have ha := (h a).mp List.mem_cons_self
      have hb := (h b).mpr List.mem_cons_self
      rcases List.mem_cons.mp ha with ha | ha
      · exact ha
      · rcases List.mem_cons.mp hb with hb | hb
        · exact hb.symm
        · have := h1'.1 b hb; have := h2'.1 a ha; omega
    subst e
    rw [ascI_ext h1'.2 h2'.2 fun i => ?_]
    constructor
    · intro hi
      have := (h i).mp (List.mem_cons_of_mem _ hi)
      rcases List.mem_cons.mp this with e | this
      · have := h1'.1 i hi; omega
      · exact this
    · intro hi
      have := (h i).mpr (List.mem_cons_of_mem _ hi)
      rcases List.mem_cons.mp this with e | this
      · have := h2'.1 i hi; omega
      · exact this
theorem usort_len {out l : List Int} (hn : out.Nodup) (hm : ∀ k, k ∈ out ↔ k ∈ l) : out.length = (usortI l).length := by
  have h2 : (usortI l).Nodup := (usort_asc l).imp fun z => Int.ne_of_lt z
  exact ((List.perm_ext_iff_of_nodup hn h2).mpr fun k => by rw [hm, usort_mem]).length_eq
section
variable {c : Cc} {X : Cx} {a : Expr} {ia : E} {p p2 q pos : Pos}
theorem sx_sset (hc : X.calm = true) (bl : Blt X "sorted" (.builtin "sorted")) (hg2 : Gl X "set") (hm2 : X.mg "set" = none) (ha : SX c X a ia) (na : starEach [a] X.env = (false, eval a X.env) :: starEach [] X.env) :
    SX c X (.Call (.Name "sorted" p) [.Call (.Name "set" p2) [a] [] q] [] pos) (.sset ia) := by
  refine sx_of (fun ρ S σ H Q hd en hp => ?_) rfl
  refine we_of (IvSrt.pe_sset hc bl.gl bl.mg bl.bt hg2 hm2 pe_we na) ?_
  refine ha.sv ρ S σ H _ hd en (post_bnd hp fun x ρ1 h1 u S1 H1 f1 en1 s1 g1 => ?_)
  have D := g1.now f1.dm en1
  have h1 := post_shiftE f1 s1 h1
  cases x with
  | tuple xs =>
    have h1 : PostG c X.K σ ρ1 S1 H1 (GE X.K σ H1) Q (ofO ρ1 ((intsOf xs).bind fun is => if is.length < 64 then some (Val.new ((usortI is).map .int)) else none)) := h1
    cases hi : intsOf xs with
    | none => rw [hi] at h1; exact h1.elim
    | some is =>
      rw [hi] at h1
      have h1 : PostG c X.K σ ρ1 S1 H1 (GE X.K σ H1) Q (ofO ρ1 (if is.length < 64 then some (Val.new ((usortI is).map .int)) else none)) := h1
      by_cases hl : is.length < 64
      · rw [if_pos hl] at h1
        obtain ⟨p, vs, rfl, t1, t2, _⟩ := D.tup
        have ev := ints_dq t2 hi
        subst ev
        refine ⟨p, is, rfl, t1, hl, fun out p' hs hm hn => ?_⟩
        have es : out = usortI is := ascI_ext hs (usort_asc is) fun k => by rw [hm, usort_mem]
        subst es
        have f := Fr.allocH (O := fun _ => False) (o := .lst ((usortI is).map V.int)) f1.dm hn
        exact h1 (.ref p') _ _ (f.imp fun _ z => z.elim) (en1.step0 f) Sub.refl (pv_vok en1 ⟨p', _, rfl, hide_same, upd_same, dq_ints _, hn⟩)
      · rw [if_neg hl] at h1; exact h1.elim
  | _ => exact h1.elim
theorem sx_lset (hc : X.calm = true) (bl : Blt X "len" (.builtin "len")) (hg2 : Gl X "set") (hm2 : X.mg "set" = none) (ha : SX c X a ia) (na : starEach [a] X.env = (false, eval a X.env) :: starEach [] X.env) :
    SX c X (.Call (.Name "len" p) [.Call (.Name "set" p2) [a] [] q] [] pos) (.lset ia) := by
  refine sx_of (fun ρ S σ H Q hd en hp => ?_) rfl
  refine we_of (IvSrt.pe_lset hc bl.gl bl.mg hg2 hm2 pe_we na) ?_
  refine ha.sv ρ S σ H _ hd en (post_bnd hp fun x ρ1 h1 u S1 H1 f1 en1 s1 g1 => ?_)
  have D := g1.now f1.dm en1
  have h1 := post_shiftE f1 s1 h1
  cases x with
  | tuple xs =>
    have h1 : PostG c X.K σ ρ1 S1 H1 (GE X.K σ H1) Q (ofO ρ1 ((intsOf xs).bind fun is => if is.length < 64 then some (Val.dat (.int ((usortI is).length : Nat))) else none)) := h1
    cases hi : intsOf xs with
    | none => rw [hi] at h1; exact h1.elim
    | some is =>
      rw [hi] at h1
      have h1 : PostG c X.K σ ρ1 S1 H1 (GE X.K σ H1) Q (ofO ρ1 (if is.length < 64 then some (Val.dat (.int ((usortI is).length : Nat))) else none)) := h1
      by_cases hl : is.length < 64
      · rw [if_pos hl] at h1
        obtain ⟨p, vs, rfl, t1, t2, _⟩ := D.tup
        have ev := ints_dq t2 hi
        subst ev
        refine ⟨p, is, rfl, t1, hl, fun out hs hm => ?_⟩
        rw [usort_len hs hm]
        exact h1 _ S1 H1 (Fr.refl f1.dm) en1 Sub.refl (.int _)
      · rw [if_neg hl] at h1; exact h1.elim
  | _ => exact h1.elim
variable {t b : Expr} {it ib : E}
theorem pt_ifT {tA tB tC : TT} (ht : PT X t tA) (ha : PT X a tB) (hb : PT X b tC) : PT X (.IfExp t a b pos) (fun σ H Q => tA σ H fun k H1 => if k = true then tB σ H1 Q else tC σ H1 Q) := by
  refine ⟨fun pins s σ H Q I h => ?_⟩
  refine PyProof.Rows.isTrue_IfExp (thn (ht.run pins s σ H _ I h) fun d s1 ⟨H1, I1, q1⟩ => ?_)
  cases d with
  | true => exact ha.run pins s1 σ H1 Q I1 q1
  | false => exact hb.run pins s1 σ H1 Q I1 q1
/-- a if t else b, as a test -/
theorem st_ite (ht : ST c X t it) (ha : ST c X a ia) (hb : ST c X b ib) : ST c X (.IfExp t a b pos) (.ite it ia ib) := fun ρ S σ H Q hd en hp => by
  refine wt_of (pt_ifT pt_wt pt_wt pt_wt) (ht ρ S σ H _ hd en ?_)
  have hp : PostT c X.K σ ρ S H Q (bnd (ev c.cl it ρ) fun v ρ1 => match v with
    | .dat (.bool true) => ev c.cl ia ρ1
    | .dat (.bool false) => ev c.cl ib ρ1
    | _ => .bad) := hp
  cases hr : ev c.cl it ρ with
  | bad => rw [hr] at hp; exact hp.elim
  | exc x ρ' => rw [hr] at hp; exact hp
  | ok r =>
    obtain ⟨val, ρ1⟩ := r
    rw [hr] at hp
    cases val with
    | new ds => exact hp.elim
    | dat d =>
      cases d with
      | bool k =>
        intro S1 H1 f1 en1 s1
        cases k with
        | true => rw [if_pos rfl]; exact ha ρ1 S1 σ H1 Q f1.dm en1 (postT_shift f1 s1 hp)
        | false => rw [if_neg Bool.false_ne_true]; exact hb ρ1 S1 σ H1 Q f1.dm en1 (postT_shift f1 s1 hp)
      | _ => exact hp.elim
end
end Iv
end

section
set_option Elab.async false
set_option linter.all false
set_option maxRecDepth 100000
set_option maxHeartbeats 4000000
namespace Iv
open PySem PySem.Spec PyProof.Rows L2
section
variable {c : Cc} {X : Cx} {P : List Nat} {st : Stmt} {e a b tyE : Expr} {x y ia ib : E} {pos p apos cpos kpos : Pos} {nm f : Str} {σ : L2.St} {ρ : En} {S : Hd} {H : Hp} {Q : VK}
/-! ### xs.index(y), of a list or of a tuple -/
theorem sx_idx (ha : SX c X a ia) (hb : SX c X b ib) (hL : PE X (.Call (.Attribute a "index" apos) [b] [] cpos) (tBM X.K "list" (rIndex X.K) (WE X a) (tCons (WE X b) tNil)))
    (hT : PE X (.Call (.Attribute a "index" apos) [b] [] cpos) (tBMT X.K (rIndexT X.K) (WE X a) (tCons (WE X b) tNil))) : SX c X (.Call (.Attribute a "index" apos) [b] [] cpos) (.idx ia ib) := by
  refine sx_of (fun ρ S σ H Q hd en hp => ?_) rfl
  have hp : PostG c X.K σ ρ S H (GE X.K σ H) Q (bnd (vwOf ia ρ (ev c.cl ia ρ)) fun x ρ1 => if isLD x || isTD x then bnd (vwOf ib ρ1 (ev c.cl ib ρ1)) fun y ρ2 => (match reD ia ρ2 x with
    | some x' => if isLD x' == isLD x then ofO ρ2 ((idxD x' y).map fun i => .dat (.int i)) else .bad
    | none => .bad) else .bad) := hp
  cases hr : vwOf ia ρ (ev c.cl ia ρ) with
  | bad => rw [hr] at hp; exact hp.elim
  | exc z ρ' =>
    rw [hr] at hp
    exact we_of hL (ha.sv ρ S σ H _ hd en (by rw [hr]; exact hp))
  | ok r =>
    obtain ⟨d, ρ1⟩ := r
    rw [hr] at hp
    have hp : PostG c X.K σ ρ S H (GE X.K σ H) Q (if isLD d || isTD d then bnd (vwOf ib ρ1 (ev c.cl ib ρ1)) fun y ρ2 => (match reD ia ρ2 d with
      | some x' => if isLD x' == isLD d then ofO ρ2 ((idxD x' y).map fun i => .dat (.int i)) else .bad
      | none => .bad) else .bad) := hp
    cases d with
    | list ds =>
      refine we_of hL (ha.sv ρ S σ H _ hd en ?_)
      rw [hr]
      intro u S1 H1 f1 en1 s1 g1
      have hp := post_shiftE f1 s1 hp
      have D1 := VwOk.now g1 f1.dm en1
      obtain ⟨q, vs, rfl, hq, _⟩ := D1.lst
      refine ⟨.inl ⟨rfl, _, SqL.of hq⟩, ?_⟩
      refine hb.sv ρ1 S1 σ H1 _ f1.dm en1 (post_bnd hp fun y ρ2 h2 v S2 H2 f2 en2 s2 g2 => ?_)
      have h2 := post_shiftE f2 s2 h2
      have D2 := g2.now f2.dm en2
      cases hz : reD ia ρ2 (.list ds) with
      | none => rw [hz] at h2; exact h2.elim
      | some x' =>
        rw [hz] at h2
        have D1' := VwOk.later g1 f2 en2 hz
        have h2 : PostG c X.K σ ρ2 S2 H2 (GE X.K σ H2) Q (if (isLD x' == true) = true then ofO ρ2 ((idxD x' y).map fun i => .dat (.int i)) else .bad) := h2
        cases x' with
        | list ds' =>
          have h2 : PostG c X.K σ ρ2 S2 H2 (GE X.K σ H2) Q (ofO ρ2 ((idxD (.list ds') y).map fun i => .dat (.int i))) := h2
          obtain ⟨val, e1, q'⟩ := prim f2.dm en2 h2
          have e1 : ((if flat y = true ∧ ds'.all flat = true then (idxGo y 0 ds').map Int.ofNat else none).map fun i => Val.dat (.int i)) = some val := e1
          by_cases hc : flat y = true ∧ ds'.all flat = true
          case neg => rw [if_neg hc] at e1; cases e1
          rw [if_pos hc] at e1
          cases hi : idxGo y 0 ds' with
          | none => rw [hi] at e1; cases e1
          | some j =>
            rw [hi] at e1
            cases e1
            obtain ⟨q2, vs2, e3, e4, e5⟩ := D1'.lst
            cases e3
            have e5 := e5.mono hid_ext
            obtain ⟨_, z, h4, h5, h6⟩ := idx_dq D2.dq hc.1 e5 hc.2 hi
            exact ⟨q, vs2, v, j, z, rfl, rfl, SqL.of e4, flat_v D2.dq hc.1, flat_all e5 hc.2, h4, h5, h6, q' _ S2 H2 (Fr.refl f2.dm) (.int _)⟩
        | _ => exact h2.elim
    | tuple ds =>
      refine we_of hT (ha.sv ρ S σ H _ hd en ?_)
      rw [hr]
      intro u S1 H1 f1 en1 s1 g1
      have hp := post_shiftE f1 s1 hp
      have D1 := VwOk.now g1 f1.dm en1
      obtain ⟨q, vs, rfl, hq, _⟩ := D1.tupS
      refine ⟨⟨q, vs, rfl, hq⟩, ?_⟩
      refine hb.sv ρ1 S1 σ H1 _ f1.dm en1 (post_bnd hp fun y ρ2 h2 v S2 H2 f2 en2 s2 g2 => ?_)
      have h2 := post_shiftE f2 s2 h2
      have D2 := g2.now f2.dm en2
      cases hz : reD ia ρ2 (.tuple ds) with
      | none => rw [hz] at h2; exact h2.elim
      | some x' =>
        rw [hz] at h2
        have D1' := VwOk.later g1 f2 en2 hz
        have h2 : PostG c X.K σ ρ2 S2 H2 (GE X.K σ H2) Q (if (isLD x' == false) = true then ofO ρ2 ((idxD x' y).map fun i => .dat (.int i)) else .bad) := h2
        cases x' with
        | tuple ds' =>
          have h2 : PostG c X.K σ ρ2 S2 H2 (GE X.K σ H2) Q (ofO ρ2 ((idxD (.tuple ds') y).map fun i => .dat (.int i))) := h2
          obtain ⟨val, e1, q'⟩ := prim f2.dm en2 h2
          have e1 : ((if flat y = true ∧ ds'.all flat = true then (idxGo y 0 ds').map Int.ofNat else none).map fun i => Val.dat (.int i)) = some val := e1
          by_cases hc : flat y = true ∧ ds'.all flat = true
          case neg => rw [if_neg hc] at e1; cases e1
          rw [if_pos hc] at e1
          cases hi : idxGo y 0 ds' with
          | none => rw [hi] at e1; cases e1
          | some j =>
            rw [hi] at e1
            cases e1
            obtain ⟨q2, vs2, e3, e4, e5, _⟩ := D1'.tup
            cases e3
            have e5 := e5.mono hid_ext
            obtain ⟨_, z, h4, h5, h6⟩ := idx_dq D2.dq hc.1 e5 hc.2 hi
            exact ⟨q, vs2, v, j, z, rfl, rfl, e4, flat_v D2.dq hc.1, flat_all e5 hc.2, h4, h5, h6, q' _ S2 H2 (Fr.refl f2.dm) (.int _)⟩
        | list ds' => exact h2.elim
        | _ => exact h2.elim
    | _ => exact hp.elim
/-! ### sum, max, min of a list of numbers -/
theorem mm_step (mx : Bool) : ∀ (r : List Int) (i m : Int), m = r.foldl (fun a b => if mx then (if a < b then b else a) else (if b < a then b else a)) i → m ∈ i :: r ∧ ∀ y ∈ i :: r, (if mx then y ≤ m else m ≤ y)
  | [], i, m, h => by
    have h : m = i := h
    subst h
    refine ⟨by simp, fun y hy => ?_⟩
    have e : y = m := by simpa using hy
    subst e
    cases mx <;> simp
  | j :: r, i, m, h => by
    obtain ⟨h1, h2⟩ := mm_step mx r _ m h
    have hc : (if mx then (if i < j then j else i) else (if j < i then j else i)) ∈ i :: j :: r := by
      cases mx
      · by_cases z : j < i <;> simp [z]
      · by_cases z : i < j <;> simp [z]
    refine ⟨?_, fun y hy => ?_⟩
    · rcases List.mem_cons.mp h1 with rfl | h1
      · exact hc
      · exact List.mem_cons_of_mem _ (List.mem_cons_of_mem _ h1)
    · have hz := h2 _ List.mem_cons_self
      rcases List.mem_cons.mp hy with rfl | hy
      · cases mx
        · simp only [Bool.false_eq_true, if_false] at hz ⊢
          by_cases z : j < y
          · rw [if_pos z] at hz; omega
          · rw [if_neg z] at hz; exact hz
        · simp only [if_true] at hz ⊢
          by_cases z : y < j
          · rw [if_pos z] at hz; omega
          · rw [if_neg z] at hz; exact hz
      · rcases List.mem_cons.mp hy with rfl | hy
        · cases mx
          · simp only [Bool.false_eq_true, if_false] at hz ⊢
            by_cases z : y < i
            · rw [if_pos z] at hz; exact hz
            · rw [if_neg z] at hz; omega
          · simp only [if_true] at hz ⊢
            by_cases z : i < y
            · rw [if_pos z] at hz; exact hz
            · rw [if_neg z] at hz; omega
        · exact h2 y (List.mem_cons_of_mem _ hy)
theorem mm_uniq {mx : Bool} {l : List Int} {m n : Int} (h1 : m ∈ l) (h2 : ∀ y ∈ l, (if mx then y ≤ m else m ≤ y)) (h3 : n ∈ l) (h4 : ∀ y ∈ l, (if mx then y ≤ n else n ≤ y)) : m = n := by
  have a := h2 n h3
  have b := h4 m h1
  cases mx
  · simp at a b; omega
  · simp at a b; omega
theorem b_sum (gl : Gl X "sum") (mg : X.mg "sum" = none) : Blt X "sum" (.builtin "sum") := blt_of (by decide +kernel) (by decide) (by decide) gl mg
theorem sx_sum1 (bl : Blt X "sum" (.builtin "sum")) (ha : SX c X a ia) (hc : X.calm = true) (he : starEach [a] X.env = [(false, eval a X.env)]) : SX c X (.Call (.Name "sum" p) [a] [] pos) (.sum1 ia) := by
  refine sx_of (fun ρ S σ H Q hd en hp => ?_) rfl
  have hp : PostG c X.K σ ρ S H (GE X.K σ H) Q (bnd (vwOf ia ρ (ev c.cl ia ρ)) fun x ρ1 => ofO ρ1 (sumD x)) := hp
  refine we_of (call_star bl (.inl ⟨_, rfl⟩) (pa_cons pe_we pa_nil he) he rfl) ?_
  refine ha.sv ρ S σ H _ hd en (post_bnd hp fun d ρ1 h1 u S1 H1 f1 en1 s1 g1 => ?_)
  obtain ⟨val, e1, q⟩ := prim f1.dm en1 (post_shiftE f1 s1 h1)
  have D1 := g1.now f1.dm en1
  cases d with
  | list xs =>
    have e1 : ((intsOf xs).map fun is => Val.dat (.int is.sum)) = some val := e1
    cases hi : intsOf xs with
    | none => rw [hi] at e1; cases e1
    | some is =>
      rw [hi] at e1
      cases e1
      obtain ⟨q0, vs, rfl, h2, h3⟩ := D1.lst
      have ev := ints_dq h3 hi
      subst ev
      exact cw_of (cr_sum hc) ⟨q0, is, rfl, SqL.of h2, q _ S1 H1 (Fr.refl f1.dm) (.int _)⟩
  | _ => cases e1
theorem sx_mm1 {mx : Bool} {fn : Str} {id : String} (bl : Blt X fn (.builtin id)) (hid : id = if mx then "max" else "min") (ha : SX c X a ia) (hc : X.calm = true) (he : starEach [a] X.env = [(false, eval a X.env)]) : SX c X (.Call (.Name fn p) [a] [] pos) (.mm1 mx ia) := by
  refine sx_of (fun ρ S σ H Q hd en hp => ?_) rfl
  have hp : PostG c X.K σ ρ S H (GE X.K σ H) Q (bnd (vwOf ia ρ (ev c.cl ia ρ)) fun x ρ1 => ofO ρ1 (mmD mx x)) := hp
  refine we_of (call_star bl (.inl ⟨_, rfl⟩) (pa_cons pe_we pa_nil he) he rfl) ?_
  refine ha.sv ρ S σ H _ hd en (post_bnd hp fun d ρ1 h1 u S1 H1 f1 en1 s1 g1 => ?_)
  obtain ⟨val, e1, q⟩ := prim f1.dm en1 (post_shiftE f1 s1 h1)
  have D1 := g1.now f1.dm en1
  cases d with
  | list xs =>
    have e1 : ((intsOf xs).bind fun is => (mmI mx is).map fun i => Val.dat (.int i)) = some val := e1
    cases hi : intsOf xs with
    | none => rw [hi] at e1; cases e1
    | some is =>
      rw [hi] at e1
      cases is with
      | nil => cases e1
      | cons i r =>
        cases e1
        obtain ⟨q0, vs, rfl, h2, h3⟩ := D1.lst
        have ev := ints_dq h3 hi
        subst ev
        obtain ⟨m1, m2⟩ := mm_step mx r i _ rfl
        cases mx with
        | true =>
          subst hid
          refine cw_of (cr_max hc) ⟨q0, i :: r, rfl, SqL.of h2, by simp, fun m a1 a2 => ?_⟩
          have e := mm_uniq (mx := true) a1 (fun y hy => by simpa using a2 y hy) m1 m2
          rw [e]
          exact q _ S1 H1 (Fr.refl f1.dm) (.int _)
        | false =>
          subst hid
          refine cw_of (cr_min hc) ⟨q0, i :: r, rfl, SqL.of h2, by simp, fun m a1 a2 => ?_⟩
          have e := mm_uniq (mx := false) a1 (fun y hy => by simpa using a2 y hy) m1 m2
          rw [e]
          exact q _ S1 H1 (Fr.refl f1.dm) (.int _)
  | _ => cases e1
end
/-! ### x[j], x[j'] = e, e' and x.extend(e) -/
section
variable {c : Cc} {X : Cx} {P : List Nat} {st : Stmt} {e e' a b j1 j2 o : Expr} {x x' y y' ia ib : E} {pos p apos cpos kpos : Pos} {σ : L2.St} {ρ : En} {S : Hd} {H : Hp}
theorem then_bnd {α : Type} {r : R En (α × En)} {f : α → En → R En Out} {N : En → R En Out} : thenO (bndO r f) N = bndO r fun a ρ => thenO (f a ρ) N := by
  cases r <;> rfl
theorem put_go {i : Nat} {N : En → R En Out} {D : Ends} {d : PyData} {u : V} {Q : L2.St → Hp → Prop} (hy : SX c X b y) (hd : Dm S H) (en : EnOk X.K S H σ ρ) (hu : Dq X.K (hid S H) u d) (hp : PostS c X.K P σ ρ S H D (thenO (putGo c.cl i y d ρ) N))
    (hq : ∀ ρ' S' H', Fr S H (Owns σ ρ) S' H' → EnOk X.K S' H' σ ρ' → Sub σ ρ ρ' → PostS c X.K P σ ρ' S' H' D (N ρ') → Q σ H') : gSub (tVar i) (WE X b) rSetL u σ H Q := by
  unfold putGo at hp
  cases ho : ownAt ρ i with
  | false => rw [ho] at hp; exact hp.elim
  | true =>
    rw [ho] at hp
    simp only [if_true] at hp
    rw [then_bnd] at hp
    obtain ⟨ds0, p, vs0, hi0, e1, e2, e3, e4⟩ := own_at en ho
    refine ⟨.ref p, e1, hy.se ρ S σ H _ hd en (postS_bnd hp fun w ρ2 u2 S2 H2 h2 f2 en2 s2 g2 => ?_)⟩
    cases w with
    | new ds => exact h2.elim
    | dat dn =>
      cases dn with
      | int n =>
        have g2 : Dq X.K (hid S2 H2) u2 (.int n) := g2
        cases g2
        cases hi : ρ2[i]? with
        | none => rw [hi] at h2; exact h2.elim
        | some s =>
          rw [hi] at h2
          cases s with
          | own ds =>
            obtain ⟨p', vs, z1, z2, z3, z4⟩ := en2.slot i _ hi
            rw [e1] at z1
            cases z1
            have h2 : PostS c X.K P σ ρ2 S2 H2 D (thenO (match ixN ds.length n with
              | some k => .ok (.next (ρ2.set i (.own (ds.set k d))))
              | none => .bad) N) := h2
            cases hk : ixN ds.length n with
            | none => rw [hk] at h2; exact h2.elim
            | some k =>
              rw [hk] at h2
              obtain ⟨f3, en3, s3⟩ := en_own (vs' := vs.set k u) (ds' := ds.set k d) f2.dm en2 hi e1 z2 (z4.set k (hu.mono f2.hid))
              have f23 := f2.trans f3 fun p z => .inl (s2 p z)
              have h3 : PostS c X.K P σ (ρ2.set i (.own (ds.set k d))) S2 (upd H2 p (.lst (vs.set k u))) D (N (ρ2.set i (.own (ds.set k d)))) := postS_shift f3 (.of s3) h2
              exact ⟨p, vs, n, k, rfl, rfl, z3, by rw [z4.length]; exact hk, hq _ S2 _ f23 en3 (s2.trans s3) h3⟩
          | _ => exact h2.elim
      | _ => exact h2.elim
theorem ss_put2 {i : Nat} (hps : PS X st (tAsg (tTup (tCons (WE X e) (tCons (WE X e') tNil))) (gTup X.K 2 (gCons (gSub (tVar i) (WE X j1) rSetL) (gCons (gSub (tVar i) (WE X j2) rSetL) gNil)))))
    (hx : SX c X e x) (hx' : SX c X e' x') (hy : SX c X j1 y) (hy' : SX c X j2 y') : SS c X P st (.put2 i y x y' x') := by
  intro ρ S σ H D hd en hp
  have hp : PostS c X.K P σ ρ S H D (bndO (ev c.cl x ρ) fun u ρ1 => bndO (ev c.cl x' ρ1) fun v ρ2 => match u, v with
    | .dat z, .dat w => thenO (putGo c.cl i y z ρ2) (putGo c.cl i y' w)
    | _, _ => .bad) := hp
  refine ws_of hps (hx.se ρ S σ H _ hd en (postS_bnd hp fun u ρ1 w1 S1 H1 h1 f1 en1 s1 g1 => ?_))
  refine hx'.se ρ1 S1 σ H1 _ f1.dm en1 (postS_bnd h1 fun v ρ2 w2 S2 H2 h2 f2 en2 s2 g2 => ?_)
  cases u with
  | new ds => exact h2.elim
  | dat z =>
    cases v with
    | new ds => exact h2.elim
    | dat w =>
      have g1 : Dq X.K (hid S1 H1) w1 z := g1
      have g2 : Dq X.K (hid S2 H2) w2 w := g2
      refine ⟨by show 2 ≤ sizeLine; decide, fun q hq => ⟨q, _, rfl, SqT.of upd_same, rfl, w1, _, rfl, ?_⟩⟩
      have fq : Fr S2 H2 (fun _ => False) S2 (upd H2 q (.tup [w1, w2])) := Fr.alloc f2.dm hq
      have enq := en2.step0 fq
      have h2q : PostS c X.K P σ ρ2 S2 (upd H2 q (.tup [w1, w2])) D (thenO (putGo c.cl i y z ρ2) (putGo c.cl i y' w)) := postS_shift (fq.imp fun _ z => z.elim) .refl h2
      refine put_go hy fq.dm enq ((g1.mono f2.hid).mono fq.hid) h2q fun ρ3 S3 H3 f3 en3 s3 h3 => ?_
      refine ⟨w2, _, rfl, ?_⟩
      have e3 : putGo c.cl i y' w ρ3 = thenO (putGo c.cl i y' w ρ3) fun ρ => .ok (.next ρ) := by
        cases putGo c.cl i y' w ρ3 with
        | ok o => cases o <;> rfl
        | _ => rfl
      rw [e3] at h3
      refine put_go hy' f3.dm en3 ((g2.mono fq.hid).mono f3.hid) h3 fun ρ4 S4 H4 f4 en4 s4 h4 => ?_
      exact ⟨rfl, h4 σ S4 H4 (Fr.refl f4.dm) en4 .refl⟩
theorem ss_ext {i : Nat} (hx : SX c X e x) (hs : swapsWith (.Call (.Attribute o "extend" apos) [e] [] cpos) none pos.line X.env = pure false)
    (hpe : PE X (.Call (.Attribute o "extend" apos) [e] [] cpos) (tBM X.K "list" rExtend (tVar i) (tCons (WE X e) tNil))) : SS c X P (.Expr (.Call (.Attribute o "extend" apos) [e] [] cpos) pos) (.ext i x) := by
  intro ρ S σ H D hd en hp
  have hp : PostS c X.K P σ ρ S H D (if ownAt ρ i then bndO (ev c.cl x ρ) fun v ρ1 => match v.d, ρ1[i]? with
      | .list zs, some (.own ds) => if ds.length + zs.length ≤ big then .ok (.next (ρ1.set i (.own (ds ++ zs)))) else .bad
      | _, _ => .bad
    else .bad) := hp
  cases ho : ownAt ρ i with
  | false => rw [ho] at hp; exact hp.elim
  | true =>
    rw [ho] at hp
    simp only [if_true] at hp
    obtain ⟨ds0, p, vs0, hi0, e1, e2, e3, e4⟩ := own_at en ho
    refine ws_of (ps_expr hpe hs) ⟨.ref p, e1, .inl ⟨rfl, _, SqL.of e3⟩, ?_⟩
    refine hx.se.sd ρ S σ H _ hd en (post_map (f := Val.d) (postS_bnd hp fun v ρ1 u S1 H1 h1 f1 en1 s1 g1 => ?_))
    have g1 : Dq X.K (hid S1 H1) u v.d := g1
    cases hv : v.d with
    | list zs =>
      rw [hv] at h1 g1
      cases hi : ρ1[i]? with
      | none => rw [hi] at h1; exact h1.elim
      | some s =>
        rw [hi] at h1
        cases s with
        | own ds =>
          obtain ⟨p', vs, z1, z2, z3, z4⟩ := en1.slot i _ hi
          rw [e1] at z1
          cases z1
          have h1 : PostS c X.K P σ ρ1 S1 H1 D (if ds.length + zs.length ≤ big then .ok (.next (ρ1.set i (.own (ds ++ zs)))) else .bad) := h1
          by_cases hz : ds.length + zs.length ≤ big
          · rw [if_pos hz] at h1
            cases g1 with
            | lst b1 b2 =>
              obtain ⟨f2, en2, s2⟩ := en_own (vs' := vs ++ _) (ds' := ds ++ zs) f1.dm en1 hi e1 z2 (z4.append b2)
              exact ⟨p, _, vs, _, rfl, rfl, z3, (hid_of b1).2, by rw [z4.length, b2.length]; exact big_le hz, h1 σ S1 _ f2 en2 (.of s2)⟩
          · rw [if_neg hz] at h1; exact h1.elim
        | _ => exact h1.elim
    | _ => rw [hv] at h1; exact h1.elim
end
end Iv
end

section
set_option Elab.async false
set_option linter.all false
set_option maxRecDepth 100000
set_option maxHeartbeats 4000000
/-! ### [f, g, h][i - m](a, ..): one of three defs, taken from a list -/
namespace Iv
open PySem PySem.Spec PyProof.Rows L2
section
variable {c : Cc} {X : Cx} {σ : L2.St} {ρ : En} {S : Hd} {H : Hp} {Q : VK} {a b : Expr} {es : List Expr} {x : E} {pos lp sp p0 p1 p2 : Pos} {f0 f1 f2 : Str} {i : Nat} {m : Int}
abbrev ixE (i : Nat) (m : Int) : E := .op .sub (.var i) (.c (.int m))
abbrev cxE (f0 f1 f2 : Str) (i : Nat) (m : Int) (x : E) : E := .ite (.cm .eq (ixE i m) (.c (.int 0))) (.call f0 x) (.ite (.cm .eq (ixE i m) (.c (.int 1))) (.call f1 x) (.ite (.cm .eq (ixE i m) (.c (.int 2))) (.call f2 x) .nil))
theorem ix_ev {cl : Orc} : (∃ z : Int, ev cl (ixE i m) ρ = .ok (.dat (.int z), ρ)) ∨ ev cl (ixE i m) ρ = .bad := by
  have e : ev cl (ixE i m) ρ = bnd (match ρ[i]? with
      | some s => ofO ρ (view s)
      | none => .bad) fun x ρ1 => match reD (.var i) ρ1 x with
        | some x => ofO ρ1 (opD .sub x (.int m))
        | none => .bad := rfl
  rw [e]
  cases hs : ρ[i]? with
  | none => exact .inr rfl
  | some s =>
    have e2 : reD (.var i) ρ .none = view s := by
      show (match ρ[i]? with
        | some s => view s
        | none => none) = _
      rw [hs]
    have e3 : ∀ y, reD (.var i) ρ y = view s := fun y => e2
    cases hv : view s with
    | none =>
      refine .inr ?_
      show bnd (ofO ρ (view s)) _ = _
      rw [hv]
      rfl
    | some d =>
      have e4 : bnd (ofO ρ (view s)) (fun x ρ1 => match reD (.var i) ρ1 x with
        | some x => ofO ρ1 (opD .sub x (.int m))
        | none => .bad) = ofO ρ (opD .sub d (.int m)) := by
        rw [hv]
        show (match reD (.var i) ρ d with
          | some x => ofO ρ (opD .sub x (.int m))
          | none => .bad) = _
        rw [e3, hv]
      show (∃ z : Int, bnd (ofO ρ (view s)) _ = _) ∨ bnd (ofO ρ (view s)) _ = _
      rw [e4]
      cases d with
      | int z => exact .inl ⟨z - m, rfl⟩
      | _ => exact .inr rfl
theorem eq_ev {cl : Orc} {z k : Int} (h : ev cl (ixE i m) ρ = .ok (.dat (.int z), ρ)) : ev cl (.cm .eq (ixE i m) (.c (.int k))) ρ = .ok (.dat (.bool (decide (z = k))), ρ) := by
  have e : ev cl (.cm .eq (ixE i m) (.c (.int k))) ρ = bnd (match ev cl (ixE i m) ρ with
      | .ok (v, ρ') => .ok (v.d, ρ')
      | .exc x e => .exc x e
      | .bad => .bad) fun x ρ1 => ofO ρ1 ((cmD .eq x (.int k)).map fun b => .dat (.bool b)) := rfl
  rw [e, h]
  show ofO ρ (some (Val.dat (.bool (PyData.eqv (.int z) (.int k))))) = _
  have : PyData.eqv (.int z) (.int k) = decide (z = k) := by
    rw [Bool.eq_iff_iff]
    simp [PyData.eqv]
  rw [this]
  rfl
theorem bad_ev {cl : Orc} (h : ev cl (ixE i m) ρ = .bad) : ev cl (cxE f0 f1 f2 i m x) ρ = .bad := by
  have e : ev cl (cxE f0 f1 f2 i m x) ρ = bnd (bnd (match ev cl (ixE i m) ρ with
      | .ok (v, ρ') => .ok (v.d, ρ')
      | .exc x e => .exc x e
      | .bad => .bad) fun x ρ1 => ofO ρ1 ((cmD .eq x (.int 0)).map fun b => Val.dat (.bool b))) fun v ρ1 => match v with
        | Val.dat (.bool true) => ev cl (.call f0 x) ρ1
        | Val.dat (.bool false) => ev cl (.ite (.cm .eq (ixE i m) (.c (.int 1))) (.call f1 x) (.ite (.cm .eq (ixE i m) (.c (.int 2))) (.call f2 x) .nil)) ρ1
        | _ => .bad := rfl
  rw [e, h]
  rfl
theorem ite_ev {cl : Orc} {t u v : E} {q : Bool} (h : ev cl t ρ = .ok (.dat (.bool q), ρ)) : ev cl (.ite t u v) ρ = if q = true then ev cl u ρ else ev cl v ρ := by
  have e : ev cl (.ite t u v) ρ = bnd (ev cl t ρ) fun w ρ1 => match w with
    | .dat (.bool true) => ev cl u ρ1
    | .dat (.bool false) => ev cl v ρ1
    | _ => .bad := rfl
  rw [e, h]
  cases q <;> rfl
theorem sx_callx (c0 : CallOk c X f0) (g0 : Gl X f0) (d0 : (f0 == ("__debug__" : Str)) = false) (c1 : CallOk c X f1) (g1 : Gl X f1) (d1 : (f1 == ("__debug__" : Str)) = false) (c2 : CallOk c X f2) (g2 : Gl X f2) (d2 : (f2 == ("__debug__" : Str)) = false)
    (hb : SX c X b (ixE i m)) (hpb : PlainIx b) (ha : SA c X (a :: es) x) (he : starEach (a :: es) X.env = (false, eval a X.env) :: starEach es X.env) (hpl : (backTo pos (starEach es X.env)).any (·.1) = false)
    (hl1 : starEach [.Name f0 p0, .Name f1 p1, .Name f2 p2] X.env = [(false, eval (.Name f0 p0) X.env), (false, eval (.Name f1 p1) X.env), (false, eval (.Name f2 p2) X.env)])
    (hcall : eval (.Call (.Subscript (.List [.Name f0 p0, .Name f1 p1, .Name f2 p2] lp) b sp) (a :: es) [] pos) X.env = (do callWith pos (← eval (.Subscript (.List [.Name f0 p0, .Name f1 p1, .Name f2 p2] lp) b sp) X.env) [] (backTo pos (starEach (a :: es) X.env)) (backToKw pos (keywordEach [] X.env)))) :
    SX c X (.Call (.Subscript (.List [.Name f0 p0, .Name f1 p1, .Name f2 p2] lp) b sp) (a :: es) [] pos) (cxE f0 f1 f2 i m x) := by
  refine sx_of (fun ρ S σ H Q hd en hp => ?_) rfl
  rcases ix_ev (cl := c.cl) (ρ := ρ) (i := i) (m := m) with ⟨z, ez⟩ | ez
  case inr =>
    rw [bad_ev ez] at hp
    exact hp.elim
  obtain ⟨a0, m0, k0, run0⟩ := c0
  obtain ⟨a1, m1, k1, run1⟩ := c1
  obtain ⟨a2, m2, k2, run2⟩ := c2
  have e0 := eq_ev (cl := c.cl) (ρ := ρ) (k := 0) ez
  have e1 := eq_ev (cl := c.cl) (ρ := ρ) (k := 1) ez
  have e2 := eq_ev (cl := c.cl) (ρ := ρ) (k := 2) ez
  rw [ite_ev e0, ite_ev e1, ite_ev e2] at hp
  have hsub : PE X (.Subscript (.List [.Name f0 p0, .Name f1 p1, .Name f2 p2] lp) b sp) (tOp (rIxL X.K) (tLst (tCons (tC (.ref a0)) (tCons (tC (.ref a1)) (tCons (tC (.ref a2)) tNil)))) (WE X b)) :=
    pe_ix ix_list (pe_lst (pa_cons (pe_glob g0 m0 rfl d0) (pa_cons (pe_glob g1 m1 rfl d1) (pa_cons (pe_glob g2 m2 rfl d2) pa_nil (by rfl)) (by rfl)) (by rfl))) pe_we hpb
  -- the def that is called
  have go : ∀ (f : Str) (fa : Addr), atI [V.ref a0, .ref a1, .ref a2] z = some (.ref fa) → PySem.W.keepIn X.K (.ref fa) = true →
      (∀ (σ : L2.St) (vs : List V) (H : Hp) (Q : VK), spO X.K c.cl c.ca f vs H Q (fun cls d H' => c.W cls d σ H') → ∀ (pins : List (Addr × Obj)) (s : Shared) (us : List Value), Inv X pins σ H s → Vals vs us → wpAny (model X.prog X.w) X.A (call (.ref fa) us) (EP X pins σ Q) X.xe s) →
      PostG c X.K σ ρ S H (GE X.K σ H) Q (ev c.cl (.call f x) ρ) → WE X (.Call (.Subscript (.List [.Name f0 p0, .Name f1 p1, .Name f2 p2] lp) b sp) (a :: es) [] pos) σ H Q := by
    intro f fa hat hk run hp pins s I
    have hp : PostG c X.K σ ρ S H (GE X.K σ H) Q (bnd (evs c.cl x ρ) fun as ρ1 => callGo c.cl f as ρ1) := hp
    refine Call_ (he := hcall) ?_
    refine thn (hsub.run pins s σ H (fun v H1 => v = .ref fa ∧ ∃ S1, Fr S H (Owns σ ρ) S1 H1 ∧ EnOk X.K S1 H1 σ ρ) I ?_) ?_
    · refine ⟨by show 3 ≤ sizeLine; decide, fun p hpn => ?_⟩
      have fr := Fr.alloc (O := fun _ => False) (o := .lst [V.ref a0, .ref a1, .ref a2]) hd hpn
      have en1 := en.step0 fr
      have hSp : S p = false := by
        cases hs : S p with
        | false => rfl
        | true => exact absurd hpn (hd p hs)
      refine hb.se ρ S σ _ _ fr.dm en1 ?_
      rw [ez]
      intro v S2 H2 fr2 en2 s2 g
      have g : Dq X.K (hid S2 H2) v (.int z) := g
      cases g
      obtain ⟨q1, q2⟩ := fr2.keep p _ hSp upd_same
      exact ⟨p, _, z, .ref fa, rfl, rfl, SqL.of q2, hat, rfl, S2, (fr.imp fun _ z => z.elim).trans fr2 fun a z => .inl z, en2⟩
    · rintro v s1 ⟨w, H2, I2, r, rfl, S2, fr2, en2⟩
      cases r
      have w' : WA X (a :: es) σ H2 (fun vs H1 => spO X.K c.cl c.ca f vs H1 Q (fun cls d H' => c.W cls d σ H')) :=
        ha.go ρ S2 σ H2 _ fr2.dm en2 (post_bnd (post_shiftE fr2 Sub.refl hp) fun as ρ1 h1 us S3 H3 f3 en3 s3 g3 => call_sound (fa := fa) en3 f3.dm g3 (post_shiftE f3 s3 h1))
      refine PySem.W.callWith_K (h₀ := X.base) I2.ok.mod.kin hk ?_ he hpl
      exact thn (w' pos pins s1 I2) fun us s2 ⟨vs, H3, I3, r3, q⟩ => ⟨I3.kIn, run σ vs H3 Q q pins s2 us I3 r3⟩
  by_cases h0 : z = 0
  · rw [decide_eq_true h0] at hp
    subst h0
    exact go f0 a0 rfl k0 run0 hp
  · rw [decide_eq_false h0] at hp
    by_cases h1 : z = 1
    · rw [decide_eq_true h1] at hp
      subst h1
      exact go f1 a1 rfl k1 run1 hp
    · rw [decide_eq_false h1] at hp
      by_cases h2 : z = 2
      · rw [decide_eq_true h2] at hp
        subst h2
        exact go f2 a2 rfl k2 run2 hp
      · rw [decide_eq_false h2] at hp
        exact hp.elim
end
end Iv
end

section
set_option Elab.async false
set_option linter.all false
set_option maxRecDepth 100000
set_option maxHeartbeats 4000000
/-! lists that are made, looked at, changed and then never looked at again: x = [a, b]; ..; x[0].append(..) -/
namespace Iv
open PySem L2
section
variable {K : PySem.W.Frag} {σ σ' : St} {ρ ρ' : En} {S S' : Hd} {H H' H2 : Hp}
/-- a list that a name owns becomes plain data -/
theorem en_frz {i : Nat} {ds : List PyData} (hd : Dm S H) (en : EnOk K S H σ ρ) (hi : ρ[i]? = some (.own ds)) : ∃ S', Fr S H (Owns σ ρ) S' H ∧ EnOk K S' H σ (ρ.set i (.dat (.list ds))) ∧ Sub σ ρ (ρ.set i (.dat (.list ds))) := by
  obtain ⟨p, vs, e1, e2, e3, e4⟩ := en.slot i _ hi
  have hO : Owns σ ρ p := ⟨i, _, hi, rfl, e1⟩
  have f2 : Fr S H (fun q => q = p) (bare S p) H := Fr.show hd rfl
  have hil : i < ρ.length := (List.getElem?_eq_some_iff.mp hi).1
  have D : Dq K (hid (bare S p) H) (.ref p) (.list ds) := .lst (hid_some bare_same e3) (e4.mono f2.hid)
  have back : ∀ (j : Nat) (s : Slot), (ρ.set i (.dat (.list ds)))[j]? = some s → j = i ∧ s = .dat (.list ds) ∨ j ≠ i ∧ ρ[j]? = some s := fun j s hj => by
    by_cases z : i = j
    · subst z
      rw [List.getElem?_set_self hil] at hj
      cases hj
      exact .inl ⟨rfl, rfl⟩
    · rw [List.getElem?_set_ne z] at hj
      exact .inr ⟨fun w => z w.symm, hj⟩
  refine ⟨bare S p, f2.imp fun q z => by subst z; exact hO, ⟨by rw [List.length_set]; exact en.len, fun j s hj => ?_, fun j k sj sk q njk hj hk oj ok' ej => ?_⟩, fun q ⟨j, s, hj, oj, ej⟩ => ?_⟩
  · rcases back j s hj with ⟨rfl, rfl⟩ | ⟨nj, hj⟩
    · exact ⟨_, e1, D⟩
    · refine (en.slot j s hj).step f2 fun q oj ej z => ?_
      subst z
      exact en.apart j i s _ q nj hj hi oj rfl ej e1
  · rcases back j sj hj with ⟨rfl, rfl⟩ | ⟨nj, hj⟩
    · cases oj
    · rcases back k sk hk with ⟨rfl, rfl⟩ | ⟨nk, hk⟩
      · cases ok'
      · exact en.apart j k sj sk q njk hj hk oj ok' ej
  · rcases back j s hj with ⟨rfl, rfl⟩ | ⟨nj, hj⟩
    · cases oj
    · exact ⟨j, s, hj, oj, ej⟩
theorem frz_ok (hd : Dm S H) (en : EnOk K S H σ ρ) : ∀ is : List Nat, ∃ S', Fr S H (Owns σ ρ) S' H ∧ EnOk K S' H σ (frzE ρ is) ∧ Sub σ ρ (frzE ρ is)
  | [] => ⟨S, Fr.refl hd, en, Sub.refl⟩
  | i :: is => by
    obtain ⟨S1, f1, en1, s1⟩ := frz_ok hd en is
    rw [frzE]
    split
    · rename_i ds hi
      obtain ⟨S2, f2, en2, s2⟩ := en_frz f1.dm en1 hi
      exact ⟨S2, f1.trans f2 fun a z => .inl (s1 a z), en2, s1.trans s2⟩
    · exact ⟨S1, f1, en1, s1⟩
theorem veil_own {s : Slot} : isOwn (veilS s) = false := by cases s <;> rfl
theorem veil_ok (en : EnOk K S H σ ρ) : EnOk K S H σ (ρ.map veilS) := by
  refine ⟨by rw [List.length_map]; exact en.len, fun i s hi => ?_, fun i j si sj p _ hi _ oi _ _ => ?_⟩
  · rw [List.getElem?_map] at hi
    cases hr : ρ[i]? with
    | none => rw [hr] at hi; cases hi
    | some s0 =>
      rw [hr] at hi
      cases hi
      have q := en.slot i s0 hr
      cases s0 with
      | no => trivial
      | dat d => exact q
      | own ds => trivial
      | lock ds => trivial
  · rw [List.getElem?_map] at hi
    cases hr : ρ[i]? with
    | none => rw [hr] at hi; cases hi
    | some s0 =>
      rw [hr] at hi
      cases hi
      rw [veil_own] at oi
      cases oi
theorem veil_not {p : Addr} : ¬ Owns σ (ρ.map veilS) p := fun ⟨i, s, hi, o, _⟩ => by
  rw [List.getElem?_map] at hi
  cases hr : ρ[i]? with
  | none => rw [hr] at hi; cases hi
  | some s0 =>
    rw [hr] at hi
    cases hi
    rw [veil_own] at o
    cases o
theorem only_get (x : Nat) (Q : List Nat) : ∀ (ρ : En) (n i : Nat), (onlyE x Q n ρ)[i]? = ρ[i]?.map fun s => if n + i ∈ Q ∧ n + i ≠ x then s else .no
  | [], n, i => by simp [onlyE]
  | s :: r, n, 0 => by simp [onlyE]
  | s :: r, n, i + 1 => by
    rw [onlyE, List.getElem?_cons_succ, List.getElem?_cons_succ, only_get x Q r (n + 1) i, show n + 1 + i = n + (i + 1) by omega]
theorem only_some {x : Nat} {Q : List Nat} {i : Nat} {s : Slot} (h : (onlyE x Q 0 ρ)[i]? = some s) : s = .no ∨ (i ∈ Q ∧ i ≠ x ∧ ρ[i]? = some s) := by
  rw [only_get] at h
  cases hr : ρ[i]? with
  | none => rw [hr] at h; cases h
  | some s0 =>
    rw [hr] at h
    simp only [Option.map_some, Option.some.injEq, Nat.zero_add] at h
    split at h
    · rename_i q
      exact .inr ⟨q.1, q.2, by rw [← h]⟩
    · exact .inl h.symm
/-- behind it: what is new may have changed -/
theorem Fr.later {O : Addr → Prop} (f : Fr S H O S' H') (h : ∀ a, H a ≠ none → H2 a = H' a) (hn : ∀ a, H' a ≠ none → H2 a ≠ none) : Fr S H O S' H2 where
  keep := fun a o h1 h2 => by
    obtain ⟨h3, h4⟩ := f.keep a o h1 h2
    exact ⟨h3, by rw [h a (by rw [h2]; simp)]; exact h4⟩
  dom := fun a z => hn a (f.dom a z)
  hidn := fun a h1 h2 => by
    obtain ⟨h3, h4⟩ := f.hidn a h1 h2
    exact ⟨h3, by rw [h a (f.dm0 a h1)]; exact h4⟩
  new := f.new
  dm0 := f.dm0
  dm := fun a z => hn a (f.dm a z)
theorem slot_at {i : Nat} {s : Slot} (e : σ'[i]? = σ[i]?) (h : SlotOk K S H σ i s) : SlotOk K S H σ' i s := by
  cases s with
  | no => trivial
  | dat d => obtain ⟨v, e1, q⟩ := h; exact ⟨v, e.trans e1, q⟩
  | own ds => obtain ⟨p, us, e1, q⟩ := h; exact ⟨p, us, e.trans e1, q⟩
  | lock ds => obtain ⟨p, us, e1, q⟩ := h; exact ⟨p, us, e.trans e1, q⟩
end
/-- the end: the lists within x are made longer -/
structure Tl (X : Cx) (x : Nat) (sts : List Stmt) : Prop where
  go : ∀ (σ : St) (H : Hp) (D : Ends) (L p q : Addr) (us vs : List V), σ[x]? = some (some (.ref L)) → H L = some (.lst [.ref p, .ref q]) → L ≠ p → p ≠ q → H p = some (.lst us) → H q = some (.lst vs) → us.length < big → vs.length < big →
    (∀ H', (∀ a, a ≠ p → a ≠ q → H' a = H a) → H' p ≠ none → H' q ≠ none → D.nx σ H') → WB X sts D σ H
section
variable {c : Cc} {X : Cx} {P Q : List Nat} {st : Stmt} {sts l : List Stmt} {a b body rest : C} {ea eb : Expr} {xa xb : E} {x : Nat} {fz : List Nat}
/-- x[k].append(t), at the heap -/
def tMore (K : PySem.W.Frag) (x : Nat) (k : Int) (t : Str) : TS := tDrop (tBM K "list" rAppend (tOp (rIxL K) (tVar x) (tC (.int k))) (tCons (tC (.str t)) tNil))
theorem tl_one {s0 : Stmt} {t : Str} (h0 : PS X s0 (tMore X.K x 0 t)) : Tl X x [s0] := by
  refine ⟨fun σ H D L p q us vs e1 e2 n1 n2 hp hq zu zv k => ?_⟩
  refine wb_of (pss_one h0) ⟨.ref L, e1, L, [.ref p, .ref q], 0, .ref p, rfl, rfl, SqL.of e2, rfl, .inl ⟨rfl, us, SqL.of hp⟩, ?_⟩
  refine ⟨p, us, .str t, rfl, rfl, hp, Nat.lt_trans zu (by decide), k _ (fun a na _ => upd_ne na) (by rw [upd_same]; simp) ?_⟩
  rw [upd_ne (fun z => n2 z.symm), hq]
  simp
theorem tl_two {s0 s1 : Stmt} {t t' : Str} (h0 : PS X s0 (tMore X.K x 0 t)) (h1 : PS X s1 (tMore X.K x 1 t')) : Tl X x [s0, s1] := by
  refine ⟨fun σ H D L p q us vs e1 e2 n1 n2 hp hq zu zv k => ?_⟩
  refine wb_of (pss_cons h0 (pss_one h1)) ⟨.ref L, e1, L, [.ref p, .ref q], 0, .ref p, rfl, rfl, SqL.of e2, rfl, .inl ⟨rfl, us, SqL.of hp⟩, ?_⟩
  refine ⟨p, us, .str t, rfl, rfl, hp, Nat.lt_trans zu (by decide), ?_⟩
  have hq' : upd H p (.lst (us ++ [.str t])) q = some (.lst vs) := by rw [upd_ne (fun z => n2 z.symm), hq]
  refine ⟨.ref L, e1, L, [.ref p, .ref q], 1, .ref q, rfl, rfl, SqL.of (by rw [upd_ne n1]; exact e2), rfl, .inl ⟨rfl, vs, SqL.of hq'⟩, ?_⟩
  refine ⟨q, vs, .str t', rfl, rfl, hq', Nat.lt_trans zv (by decide), k _ (fun a na nq => ?_) ?_ (by rw [upd_same]; simp)⟩
  · rw [upd_ne nq, upd_ne na]
  · rw [upd_ne n2, upd_same]; simp
theorem wp_app {M : Model} {A : Around} {env : Env} {E : Value → Shared → Prop} {Q : Flow → Shared → Prop} {r : List Stmt} : ∀ (l : List Stmt) (Γ : Ctx) (p : Pos) (s : Shared), Γ.In A → Sem.wp M Γ (execs l env) (fun f _ s' => match f with | .next => wpAny M A (execs r env) Q E s' | f => Q f s') (fun e _ s' => E e s') p s → Sem.wp M Γ (execs (l ++ r) env) (fun f _ s' => Q f s') (fun e _ s' => E e s') p s
  | [], Γ, p, s, hΓ, h => h Γ p hΓ
  | st :: l, Γ, p, s, hΓ, h => by
    rw [List.cons_append, execs_cons, Sem.wp_bind']
    rw [execs_cons, Sem.wp_bind'] at h
    refine Sem.wp_mono M Γ _ (fun f p' s' h' => ?_) (fun _ _ _ h' => h') _ _ h
    cases f <;> first | exact wp_app l Γ p' s' hΓ h' | exact h'
theorem wb_app {X : Cx} {l r : List Stmt} {D : Ends} {σ : St} {H : Hp} (h : WB X l { D with nx := fun σ' H' => WB X r D σ' H' } σ H) : WB X (l ++ r) D σ H := fun pins s I Γ p hΓ => by
  refine wp_app l Γ p s hΓ (thn (h pins s I) (fun f s' q => ?_) Γ p hΓ)
  cases f with
  | next =>
    obtain ⟨σ', H', I', q⟩ := q
    exact q pins s' I'
  | ret v => exact q
  | brk => exact q
  | cont => exact q
/-- THE RULE -/
theorem sb_scope (hps : PS X st (tAsg (tLst (tCons (WE X ea) (tCons (WE X eb) tNil))) (gName x))) (ha : SX c X ea xa) (hb : SX c X eb xb) {mid tl : List Stmt} (hm : SB' c X Q mid body) (ht : Tl X x tl) (hr : SB' c X P sts rest)
    : SB' c X P (st :: (mid ++ (tl ++ sts))) (.seq (.scope x xa xb fz Q body) rest) := by
  intro ρ S σ H D hd en hp
  have hp : PostS c X.K P σ ρ S H D (thenO (if x ∉ P ∧ x ∈ Q ∧ x < ρ.length ∧ P.all (fun i => decide (i ∈ Q)) = true then
      (match ev c.cl xa ((frzE ρ fz).map veilS) with
      | .ok (.new ds, ρ1) => (match ev c.cl xb ρ1 with
        | .ok (.new es, ρ2) => if ds.length < big ∧ es.length < big then
            (match exec c.cl Q body (ρ2.set x (.dat (.list [.list ds, .list es]))) with
            | .ok (.next ρ3) => if ρ3.length = ρ.length then .ok (.next (onlyE x Q 0 (frzE ρ fz))) else .bad
            | .ok (.ret (.dat d) ρ3) => if flat d = true ∧ ρ3.length = ρ.length then .ok (.ret (.dat d) (onlyE x Q 0 (frzE ρ fz))) else .bad
            | _ => .bad)
          else .bad
        | _ => .bad)
      | _ => .bad)
    else .bad) (exec c.cl P rest)) := hp
  by_cases hc : x ∉ P ∧ x ∈ Q ∧ x < ρ.length ∧ P.all (fun i => decide (i ∈ Q)) = true
  case neg => rw [if_neg hc] at hp; exact hp.elim
  rw [if_pos hc] at hp
  obtain ⟨hxP, hxQ, hxl, hPQ⟩ := hc
  have hPQ : ∀ i ∈ P, i ∈ Q := fun i hi => by simpa using List.all_eq_true.mp hPQ i hi
  obtain ⟨S0, f0, en0, s0⟩ := frz_ok hd en fz
  have hl0 : ρ.length = (frzE ρ fz).length := en.len.trans en0.len.symm
  rw [hl0] at hp
  generalize frzE ρ fz = ρ0 at *
  refine wb_of (pss_cons hps pss_wb) ?_
  refine ha.se _ S0 σ H _ f0.dm (veil_ok en0) ?_
  cases hra : ev c.cl xa (ρ0.map veilS) with
  | bad => rw [hra] at hp; exact hp.elim
  | exc z ρ1 => rw [hra] at hp; exact hp.elim
  | ok r =>
    obtain ⟨val, ρ1⟩ := r
    rw [hra] at hp
    cases val with
    | dat d => exact hp.elim
    | new ds =>
      intro v1 S1 H1 f1 en1 s1 g1
      refine hb.se _ S1 σ H1 _ f1.dm en1 ?_
      simp only at hp
      cases hrb : ev c.cl xb ρ1 with
      | bad => rw [hrb] at hp; exact hp.elim
      | exc z ρ1 => rw [hrb] at hp; exact hp.elim
      | ok r =>
        obtain ⟨val, ρ2⟩ := r
        rw [hrb] at hp
        cases val with
        | dat d => exact hp.elim
        | new es =>
          intro v2 S2 H2 f2 en2 s2 g2
          simp only at hp
          by_cases hz : ds.length < big ∧ es.length < big
          case neg => rw [if_neg hz] at hp; exact hp.elim
          rw [if_pos hz] at hp
          have no1 : ∀ p, ¬ Owns σ ρ1 p := fun p z => veil_not (s1 p z)
          have no2 : ∀ p, ¬ Owns σ ρ2 p := fun p z => no1 p (s2 p z)
          obtain ⟨p, us, rfl, a1, a2, a3, a4, a5⟩ := g1
          obtain ⟨q, vs, rfl, b1, b2, b3, b4, b5⟩ := g2
          obtain ⟨a1', a2'⟩ := f2.hidn p a1 (no1 p)
          have npq : p ≠ q := fun z => by rw [z, b5] at a2; cases a2
          refine ⟨show 2 ≤ sizeLine by decide, fun L hL => ?_⟩
          -- all three are known to all
          have fL : Fr S2 H2 (fun _ => False) S2 (upd H2 L (.lst [.ref p, .ref q])) := Fr.alloc f2.dm hL
          have nLp : L ≠ p := fun z => by rw [z, a2', a2] at hL; cases hL
          have nLq : L ≠ q := fun z => by rw [z, b2] at hL; cases hL
          have fp : Fr S2 (upd H2 L (.lst [.ref p, .ref q])) (fun r => r = p) (bare S2 p) (upd H2 L (.lst [.ref p, .ref q])) := Fr.show fL.dm rfl
          have fq : Fr (bare S2 p) (upd H2 L (.lst [.ref p, .ref q])) (fun r => r = q) (bare (bare S2 p) q) (upd H2 L (.lst [.ref p, .ref q])) := Fr.show fp.dm rfl
          have hSL : S2 L = false := by
            cases hs : S2 L with
            | false => rfl
            | true => exact absurd hL (f2.dm L hs)
          generalize hS3 : bare (bare S2 p) q = S3 at *
          generalize hH3 : upd H2 L (.lst [.ref p, .ref q]) = H3 at *
          have c1 : H3 L = some (.lst [.ref p, .ref q]) := by rw [← hH3, upd_same]
          have c2 : H3 p = some (.lst us) := by rw [← hH3, upd_ne (fun z => nLp z.symm), a2', a2]
          have c3 : H3 q = some (.lst vs) := by rw [← hH3, upd_ne (fun z => nLq z.symm), b2]
          have d1 : S3 L = false := by rw [← hS3, bare_ne nLq, bare_ne nLp]; exact hSL
          have d2 : S3 p = false := by rw [← hS3, bare_ne npq]; exact bare_same
          have d3 : S3 q = false := by rw [← hS3]; exact bare_same
          have f23 : Fr S2 H2 (fun r => r = p ∨ r = q) S3 H3 := ((fL.imp fun _ z => z.elim).trans (fp.imp fun _ z => .inl z) fun _ z => .inl z).trans (fq.imp fun _ z => Or.inr z) fun _ z => .inl z
          have en3 : EnOk X.K S3 H3 σ ρ2 := en2.step f23 fun r z _ => no2 r z
          have f03 : Fr S0 H (fun _ => False) S3 H3 := by
            refine ((f1.imp fun r z => (veil_not z).elim).trans (f2.imp fun r z => (no1 r z).elim) fun _ z => (z : False).elim).trans f23 fun r z => .inr ?_
            rcases z with rfl | rfl
            · exact a5
            · exact f1.fresh b5
          have Dd : Dq X.K (hid S3 H3) (.ref L) (.list [.list ds, .list es]) := .lst (hid_some d1 c1) (.cons (.lst (hid_some d2 c2) (a3.mono fun a o h => f23.hid a o (f2.hid a o h))) (.cons (.lst (hid_some d3 c3) (b3.mono f23.hid)) .nil))
          obtain ⟨en4, ow4, ag4⟩ := en_set (i := x) (v := .ref L) (s := .dat (.list [.list ds, .list es])) en3 (fun h => ⟨_, List.getElem?_set_self h, Dd⟩) fun p z => by cases z
          have no4 : ∀ r, ¬ Owns (σ.set x (some (.ref L))) (ρ2.set x (.dat (.list [.list ds, .list es]))) r := fun r z => (ow4 r z).elim (no2 r) fun w => Bool.noConfusion w.1
          have hlen : σ.length = ρ0.length := en0.len.symm
          -- what holds at the end
          have fin : ∀ σ' S' H' ρ' (H5 : Hp), Fr S3 H3 (Owns (σ.set x (some (.ref L))) (ρ2.set x (.dat (.list [.list ds, .list es])))) S' H' → EnOk X.K S' H' σ' ρ' → SubS Q (σ.set x (some (.ref L))) (ρ2.set x (.dat (.list [.list ds, .list es]))) H3 σ' ρ' → ρ'.length = ρ0.length → (∀ a, H a ≠ none → H5 a = H' a) → (∀ a, H' a ≠ none → H5 a ≠ none) →
              Fr S H (Owns σ ρ) S' H5 ∧ EnOk X.K S' H5 σ' (onlyE x Q 0 ρ0) ∧ SubS P σ ρ H σ' (onlyE x Q 0 ρ0) := by
            intro σ' S' H' ρ' H5 g en' sb hl h5 h5n
            have f04 : Fr S0 H (fun _ => False) S' H5 := (f03.trans (g.imp fun r z => (no4 r z).elim) fun _ z => (z : False).elim).later h5 h5n
            have at_ : ∀ i, i ∈ Q → i ≠ x → σ'[i]? = σ[i]? := fun i hi nx => (sb.prot i hi).trans (ag4.2 i fun z => nx (List.mem_singleton.mp z))
            refine ⟨f0.trans f04 fun _ z => z.elim, ⟨?_, fun i s hi => ?_, fun i j si sj r nij hi hj oi oj ei ej => ?_⟩, ⟨fun r ⟨i, s, hi, oi, ei⟩ => ?_, fun j hj => ?_⟩⟩
            · have h1 : ∀ (ρ : En) n, (onlyE x Q n ρ).length = ρ.length := fun ρ => by
                induction ρ with
                | nil => intro n; rfl
                | cons s r ih => intro n; rw [onlyE, List.length_cons, List.length_cons, ih]
              rw [h1, ← hl]
              exact en'.len
            · rcases only_some hi with rfl | ⟨h1, h2, h3⟩
              · trivial
              · exact slot_at (at_ i h1 h2) ((en0.slot i s h3).step f04 fun _ _ _ z => z)
            · rcases only_some hi with rfl | ⟨h1, h2, h3⟩
              · cases oi
              · rcases only_some hj with rfl | ⟨k1, k2, k3⟩
                · cases oj
                · rw [at_ i h1 h2] at ei
                  rw [at_ j k1 k2] at ej
                  exact en0.apart i j si sj r nij h3 k3 oi oj ei ej
            · rcases only_some hi with rfl | ⟨h1, h2, h3⟩
              · cases oi
              · rw [at_ i h1 h2] at ei
                exact .inl (s0 r ⟨i, s, h3, oi, ei⟩)
            · exact at_ j (hPQ j hj) fun z => hxP (by rw [← z]; exact hj)
          refine wb_app (l := mid) (hm _ S3 _ H3 _ f23.dm en4 ?_)
          have hb' : SubS Q (σ.set x (some (.ref L))) (ρ2.set x (.dat (.list [.list ds, .list es]))) H3 (σ.set x (some (.ref L))) (ρ2.set x (.dat (.list [.list ds, .list es]))) := .refl
          cases hbd : exec c.cl Q body (ρ2.set x (.dat (.list [.list ds, .list es]))) with
          | bad => rw [hbd] at hp; exact hp.elim
          | exc z ρ3 => rw [hbd] at hp; exact hp.elim
          | ok o =>
            rw [hbd] at hp
            cases o with
            | brk ρ3 => exact hp.elim
            | cont ρ3 => exact hp.elim
            | ret val ρ3 =>
              cases val with
              | new _ => exact hp.elim
              | dat d =>
                simp only at hp
                by_cases hf : flat d = true ∧ ρ3.length = ρ0.length
                case neg => rw [if_neg hf] at hp; exact hp.elim
                rw [if_pos hf] at hp
                intro u σ' S' H' g en' sb vr
                obtain ⟨k1, k2, k3⟩ := fin σ' S' H' ρ3 H' g en' sb hf.2 (fun _ _ => rfl) (fun _ z => z)
                exact hp u σ' S' H' k1 k2 k3 (dq_flat (show Dq X.K (hid S' H') u d from vr) hf.1)
            | next ρ3 =>
              simp only at hp
              by_cases hf : ρ3.length = ρ0.length
              case neg => rw [if_neg hf] at hp; exact hp.elim
              rw [if_pos hf] at hp
              intro σ' S' H' g en' sb
              have kp : ∀ a o, S3 a = false → H3 a = some o → H' a = some o := fun a o h1 h2 => (g.keep a o h1 h2).2
              refine wb_app (l := tl) (ht.go σ' H' _ L p q us vs ?_ (kp L _ d1 c1) nLp npq (kp p _ d2 c2) (kp q _ d3 c3) (by rw [a3.length]; exact hz.1) (by rw [b3.length]; exact hz.2) fun H5 h5 h5p h5q => ?_)
              · rw [sb.prot x hxQ]
                have hx : x < σ.length := by rw [← en.len]; exact hxl
                exact List.getElem?_set_self hx
              · obtain ⟨k1, k2, k3⟩ := fin σ' S' H' ρ3 H5 g en' sb hf (fun a ha => h5 a (fun z => ha (by rw [z]; exact a5)) fun z => ha (by rw [z]; exact f1.fresh b5)) fun a ha => by
                  by_cases e1 : a = p
                  · rw [e1]; exact h5p
                  · by_cases e2 : a = q
                    · rw [e2]; exact h5q
                    · rw [h5 a e1 e2]; exact ha
                exact hr _ S' σ' H5 D k1.dm k2 (postS_shift k1 k3 hp)
theorem sb_scopeL (m t : Nat) (hps : PS X st (tAsg (tLst (tCons (WE X ea) (tCons (WE X eb) tNil))) (gName x))) (ha : SX c X ea xa) (hb : SX c X eb xb) (hm : SB' c X Q (l.take m) body) (ht : Tl X x ((l.drop m).take t)) (hr : SB' c X P ((l.drop m).drop t) rest) : SB' c X P (st :: l) (.seq (.scope x xa xb fz Q body) rest) := by
  have h := sb_scope (fz := fz) hps ha hb hm ht hr
  rw [List.take_append_drop, List.take_append_drop] at h
  exact h
theorem sb_scopeAt {bd : List Stmt} (i m t n : Nat) (hn : n = i + 1 + (m + t)) (hi : i < bd.length) (hps : PS X (bd.getD i noS) (tAsg (tLst (tCons (WE X ea) (tCons (WE X eb) tNil))) (gName x))) (ha : SX c X ea xa) (hb : SX c X eb xb) (hm : SB' c X Q ((bd.drop (i + 1)).take m) body) (ht : Tl X x (((bd.drop (i + 1)).drop m).take t)) (hr : SBx c X P (bd.drop n) rest) : SBx c X P (bd.drop i) (.seq (.scope x xa xb fz Q body) rest) := by
  rw [drop_getD hi]
  refine ⟨sb_scopeL m t hps ha hb hm ht ?_⟩
  rw [List.drop_drop, List.drop_drop]
  subst hn
  exact hr.go
end
end Iv
end

section
set_option Elab.async false
set_option linter.all false
set_option maxRecDepth 100000
set_option maxHeartbeats 4000000
namespace Iv
open PySem L2
section
variable {c : Cc} {K : PySem.W.Frag} {P : List Nat} {σ : St} {ρ : En} {S : Hd} {H : Hp} {D : Ends} {i : Nat} {ds : List PyData} {p : Addr} {vs : List V}
theorem set_each {ρ : En} {s0 : Slot} (hil : i < ρ.length) (j : Nat) (s : Slot) (hj : (ρ.set i s0)[j]? = some s) : (j = i ∧ s = s0) ∨ (j ≠ i ∧ ρ[j]? = some s) := by
  by_cases z : i = j
  · subst z
    rw [List.getElem?_set_self hil] at hj
    exact .inl ⟨rfl, (Option.some.inj hj).symm⟩
  · rw [List.getElem?_set_ne z] at hj
    exact .inr ⟨fun w => z w.symm, hj⟩
/-- a list that its name owns goes out of sight -/
theorem en_away (en : EnOk K S H σ ρ) (hi : ρ[i]? = some (.own ds)) (e1 : σ[i]? = some (some (.ref p))) : EnOk K S H σ (ρ.set i .no) ∧ (∀ q, Owns σ (ρ.set i .no) q → Owns σ ρ q ∧ q ≠ p) := by
  have hil : i < ρ.length := (List.getElem?_eq_some_iff.mp hi).1
  refine ⟨⟨by rw [List.length_set]; exact en.len, fun j s hj => ?_, fun j k sj sk q njk hj hk oj ok' ej => ?_⟩, fun q ⟨j, s, hj, oj, ej⟩ => ?_⟩
  · rcases set_each hil j s hj with ⟨rfl, rfl⟩ | ⟨nj, hj⟩
    · trivial
    · exact en.slot j s hj
  · rcases set_each hil j sj hj with ⟨rfl, rfl⟩ | ⟨nj, hj⟩
    · cases oj
    · rcases set_each hil k sk hk with ⟨rfl, rfl⟩ | ⟨nk, hk⟩
      · cases ok'
      · exact en.apart j k sj sk q njk hj hk oj ok' ej
  · rcases set_each hil j s hj with ⟨rfl, rfl⟩ | ⟨nj, hj⟩
    · cases oj
    · exact ⟨⟨j, s, hj, oj, ej⟩, fun z => by subst z; exact en.apart j i s _ q nj hj hi oj rfl ej e1⟩
/-- and comes back -/
theorem en_home {σ' : St} {ρ' : En} {S' : Hd} {H' : Hp} (en : EnOk K S H σ ρ) (hi : ρ[i]? = some (.own ds)) (e1 : σ[i]? = some (some (.ref p))) (e2 : S p = true) (e3 : H p = some (.lst vs)) (e4 : DqA K (hid S H) vs ds)
    (f : Fr S H (Owns σ (ρ.set i .no)) S' H') (en' : EnOk K S' H' σ' ρ') (sb : SubS (i :: P) σ (ρ.set i .no) H σ' ρ') :
    Fr S H (Owns σ ρ) S' H' ∧ EnOk K S' H' σ' (ρ'.set i (.own ds)) ∧ SubS P σ ρ H σ' (ρ'.set i (.own ds)) ∧ (∀ q, Owns σ' (ρ'.set i (.own ds)) q → Owns σ' ρ' q ∨ q = p) ∧ (∀ q, Owns σ (ρ.set i .no) q ∨ H q = none → q ≠ p) := by
  obtain ⟨_, away⟩ := en_away en hi e1
  have hO : Owns σ ρ p := ⟨i, _, hi, rfl, e1⟩
  have np : ∀ q, Owns σ (ρ.set i .no) q ∨ H q = none → q ≠ p := fun q hq z => by
    subst z
    rcases hq with hq | hq
    · exact (away q hq).2 rfl
    · rw [e3] at hq; cases hq
  have ei : σ'[i]? = some (some (.ref p)) := (sb.prot i List.mem_cons_self).trans e1
  have hil : i < ρ'.length := by
    rw [en'.len]
    exact (List.getElem?_eq_some_iff.mp ei).1
  have no : ¬ Owns σ' ρ' p := fun z => np p (sb.own p z) rfl
  obtain ⟨q1, q2⟩ := f.hidn p e2 fun z => (away p z).2 rfl
  have own2 : ∀ q, Owns σ' (ρ'.set i (.own ds)) q → Owns σ' ρ' q ∨ q = p := fun q ⟨j, s, hj, oj, ej⟩ => by
    rcases set_each hil j s hj with ⟨rfl, rfl⟩ | ⟨nj, hj⟩
    · rw [ei] at ej; cases ej; exact .inr rfl
    · exact .inl ⟨j, s, hj, oj, ej⟩
  refine ⟨f.imp fun q z => (away q z).1, ⟨by rw [List.length_set]; exact en'.len, fun j s hj => ?_, fun j k sj sk q njk hj hk oj ok' ej ek => ?_⟩, ⟨fun q z => ?_, fun j hj => sb.prot j (List.mem_cons_of_mem _ hj)⟩, own2, np⟩
  · rcases set_each hil j s hj with ⟨rfl, rfl⟩ | ⟨nj, hj⟩
    · exact ⟨p, vs, ei, q1, q2.trans e3, e4.mono f.hid⟩
    · exact en'.slot j s hj
  · rcases set_each hil j sj hj with ⟨zj, rfl⟩ | ⟨nj, hj1⟩
    · rw [zj, ei] at ej; cases ej
      rcases set_each hil k sk hk with ⟨zk, _⟩ | ⟨nk, hk1⟩
      · exact njk (zj.trans zk.symm)
      · exact no ⟨k, sk, hk1, ok', ek⟩
    · rcases set_each hil k sk hk with ⟨zk, rfl⟩ | ⟨nk, hk1⟩
      · rw [zk, ei] at ek; cases ek
        exact no ⟨j, sj, hj1, oj, ej⟩
      · exact en'.apart j k sj sk q njk hj1 hk1 oj ok' ej ek
  · rcases own2 q z with z | rfl
    · exact (sb.own q z).elim (fun w => .inl (away q w).1) .inr
    · exact .inl hO
theorem post_home {r : R En Out} (en : EnOk K S H σ ρ) (hi : ρ[i]? = some (.own ds)) (e1 : σ[i]? = some (some (.ref p))) (e2 : S p = true) (e3 : H p = some (.lst vs)) (e4 : DqA K (hid S H) vs ds)
    (h : PostS c K P σ ρ S H D (outB i ds r)) : PostS c K (i :: P) σ (ρ.set i .no) S H D r := by
  cases r with
  | bad => exact h
  | exc x ρ' =>
    intro d σ' S' H' f en' sb xo
    obtain ⟨k1, k2, k3, _, _⟩ := en_home en hi e1 e2 e3 e4 f en' sb
    exact h d σ' S' H' k1 k2 k3 xo
  | ok o =>
    cases o with
    | next ρ' =>
        intro σ' S' H' f en' sb
        obtain ⟨k1, k2, k3, _, _⟩ := en_home en hi e1 e2 e3 e4 f en' sb
        exact h σ' S' H' k1 k2 k3
    | ret v ρ' =>
        intro u σ' S' H' f en' sb vr
        obtain ⟨k1, k2, k3, k4, k5⟩ := en_home en hi e1 e2 e3 e4 f en' sb
        obtain ⟨_, away⟩ := en_away en hi e1
        refine h u σ' S' H' k1 k2 k3 ?_
        cases v with
        | dat d => exact vr
        | new es =>
          obtain ⟨q, us, z1, z2, z3, z4, z5, z6⟩ := vr
          refine ⟨q, us, z1, z2, z3, z4, fun z => (k4 q z).elim z5 (k5 q z6), z6.elim (fun w => .inl (away q w).1) .inr⟩
    | brk ρ' => exact (show False from h).elim
    | cont ρ' => exact (show False from h).elim
end
section
variable {c : Cc} {X : Cx} {P : List Nat} {sts : List Stmt} {a : C} {tgE iter : Expr} {pos : Pos} {tg : Tg}
/-- for tg in x: body, x a list that its name owns and that the body does not touch -/
theorem ss_forb {i : Nat} (po : PassesOwn (model X.prog X.w) X.A X.env X.xe) (hc : X.calm = true) (hv : PE X iter (tVar i)) (hg : SG X tgE tg) (hb : SB' c X (i :: P) sts a) (hs : ∀ z, foldedSetIterable iter X.env z = pure z) : SS c X P (.For tgE iter sts [] pos) (.loopb i tg a) := by
  intro ρ S σ H D hd en hp
  have hp : PostS c X.K P σ ρ S H D (if tg.slots.any (fun j => decide (j ∈ i :: P)) then .bad else match ρ[i]? with
    | some (.own ds) => outB i ds (loopGo (exec c.cl (i :: P) a) tg ds (ρ.set i .no))
    | _ => .bad) := hp
  cases hi' : tg.slots.any (fun j => decide (j ∈ i :: P)) with
  | true => rw [hi'] at hp; exact hp.elim
  | false =>
    rw [hi'] at hp
    simp only [Bool.false_eq_true, if_false] at hp
    cases hi : ρ[i]? with
    | none => rw [hi] at hp; exact hp.elim
    | some s =>
      rw [hi] at hp
      cases s with
      | no => exact hp.elim
      | dat d => exact hp.elim
      | lock ds => exact hp.elim
      | own ds =>
        obtain ⟨p, vs, e1, e2, e3, e4⟩ := en.slot i _ hi
        obtain ⟨en0, away⟩ := en_away en hi e1
        have h1 := post_home en hi e1 e2 e3 e4 hp
        generalize hρ0 : ρ.set i .no = ρ0 at *
        refine ws_of (ps_for po hc (pi_list hv) pg_wg pss_wb hs) ⟨.ref p, e1, p, rfl, ⟨vs, SqL.of e3⟩, ?_⟩
        refine for_it (walk_list (xs := vs)) (Pv := fun j σ' H' => ∃ S' ρ', Fr S H (Owns σ ρ0) S' H' ∧ EnOk X.K S' H' σ' ρ' ∧ SubS (i :: P) σ ρ0 H σ' ρ' ∧ loopGo (exec c.cl (i :: P) a) tg (ds.drop j) ρ' = loopGo (exec c.cl (i :: P) a) tg ds ρ0) ?_ ?_ ?_ ?_
        · exact ⟨S, ρ0, Fr.refl hd, en0, .refl, by simp⟩
        · rintro j σ' H' _ ⟨S', ρ', f, _⟩
          obtain ⟨_, q2⟩ := f.hidn p e2 fun z => (away p z).2 rfl
          exact SqL.of (q2.trans e3)
        · rintro j v σ' H' H2 hin ⟨S', ρ', f, en', sb, hgo⟩ y
          obtain ⟨eH, ex⟩ := y
          rw [eH]
          obtain ⟨d, ed, hv0⟩ := e4.getV ex
          have hv1 := hv0.mono f.hid
          have hj2 : j < ds.length := (List.getElem?_eq_some_iff.mp ed).1
          have edr : ds.drop j = d :: ds.drop (j + 1) := by
            rw [List.getElem?_eq_getElem hj2] at ed
            cases ed
            exact List.drop_eq_getElem_cons hj2
          rw [edr] at hgo
          rw [loopGo] at hgo
          cases htg : tgGo tg d ρ' with
          | none => rw [htg] at hgo; rw [← hgo] at h1; exact h1.elim
          | some ρ2 =>
            rw [htg] at hgo
            simp only at hgo
            refine hg σ' ρ' S' H' v d ρ2 _ en' (.inl hv1) htg fun σ2 z => ?_
            have sb2 : SubS (i :: P) σ ρ0 H σ2 ρ2 := ⟨fun p w => sb.own p (z.own p w), fun j hj => (prot_of hi' z.ag j hj).trans (sb.prot j hj)⟩
            refine hb ρ2 S' σ2 H' _ f.dm z.en ?_
            have h2 := postS_shift f sb2 (by rw [← hgo] at h1; exact h1)
            cases hbd : exec c.cl (i :: P) a ρ2 with
            | bad => rw [hbd] at h2; exact h2
            | exc w ρ3 => rw [hbd] at h2; exact h2
            | ok o =>
              cases o with
              | next ρ3 =>
                intro σ3 S3 H3 f3 en3 sb3
                rw [hbd] at hgo
                exact ⟨S3, ρ3, f.trans f3 sb2.own, en3, sb2.trans f sb3, hgo⟩
              | cont ρ3 =>
                intro σ3 S3 H3 f3 en3 sb3
                rw [hbd] at hgo
                exact ⟨S3, ρ3, f.trans f3 sb2.own, en3, sb2.trans f sb3, hgo⟩
              | brk ρ3 => rw [hbd] at h2; exact h2
              | ret w ρ3 => rw [hbd] at h2; exact h2
        · rintro σ' H' ⟨S', ρ', f, en', sb, hgo⟩
          have hl : ds.drop vs.length = [] := by rw [List.drop_eq_nil_iff]; rw [e4.length]; exact Nat.le_refl _
          rw [hl] at hgo
          rw [loopGo] at hgo
          rw [← hgo] at h1
          exact h1 σ' S' H' f en' sb
end
end Iv
end

section
set_option Elab.async false
set_option linter.all false
set_option maxRecDepth 100000
set_option maxHeartbeats 4000000
namespace Iv
open PySem PySem.Spec PyProof.Rows L2
/-! ### tuples of numbers in their order -/
theorem ints_inv : ∀ {xs : List PyData} {a : List Int}, intsOf xs = some a → xs = a.map PyData.int
  | [], a, h => by cases h; rfl
  | x :: r, a, h => by
    cases x with
    | int i =>
      have h : (intsOf r).map (i :: ·) = some a := h
      cases hr : intsOf r with
      | none => rw [hr] at h; cases h
      | some b => rw [hr] at h; cases h; rw [ints_inv hr]; rfl
    | _ => cases h
theorem ints_map2 : ∀ a : List Int, intsOf (a.map PyData.int) = some a
  | [] => rfl
  | i :: r => by show (intsOf (r.map PyData.int)).map (i :: ·) = _; rw [ints_map2 r]; rfl
theorem tup_inv {d : PyData} (h : intTup d = true) : ∃ a : List Int, d = .tuple (a.map PyData.int) := by
  cases d with
  | tuple xs =>
    have h : (intsOf xs).isSome = true := h
    cases hx : intsOf xs with
    | none => rw [hx] at h; cases h
    | some a => exact ⟨a, by rw [ints_inv hx]⟩
  | _ => cases h
theorem ltI_list : ∀ a b : List Int, PySem.W.listLt a b = ltI a b
  | [], [] => rfl
  | [], _ :: _ => rfl
  | _ :: _, [] => rfl
  | i :: a, j :: b => by
    rw [PySem.W.listLt, ltI, ltI_list a b]
    rfl
theorem lt_int (i j : Int) : PySem.W.dataLt (.int i) (.int j) = ltD (.int i) (.int j) := PySem.W.dataLt_int i j
theorem lt_tup (a b : List Int) : PySem.W.dataLt (.tuple (a.map PyData.int)) (.tuple (b.map PyData.int)) = ltD (.tuple (a.map PyData.int)) (.tuple (b.map PyData.int)) := by
  have e : ltD (.tuple (a.map PyData.int)) (.tuple (b.map PyData.int)) = ltI a b := by
    show (match intsOf (a.map PyData.int), intsOf (b.map PyData.int) with
      | some a, some b => ltI a b
      | _, _ => false) = ltI a b
    rw [ints_map2, ints_map2]
  rw [e, ← ltI_list]
  exact (PySem.W.dataLt_tuple _ _).trans (PySem.W.lexAll_map a b)
/-- data that is ordered here: a number, a tuple of numbers -/
def Ordd (d : PyData) : Prop := (∃ i, d = .int i) ∨ ∃ a : List Int, d = .tuple (a.map PyData.int)
/-- the same kind -/
def Two (x y : PyData) : Prop := (∃ i j, x = .int i ∧ y = .int j) ∨ ∃ a b : List Int, x = .tuple (a.map PyData.int) ∧ y = .tuple (b.map PyData.int)
theorem Two.lt {x y : PyData} (h : Two x y) : PySem.W.dataLt x y = ltD x y := by
  rcases h with ⟨i, j, rfl, rfl⟩ | ⟨a, b, rfl, rfl⟩
  · exact lt_int i j
  · exact lt_tup a b
theorem Two.symm {x y : PyData} (h : Two x y) : Two y x := by
  rcases h with ⟨i, j, rfl, rfl⟩ | ⟨a, b, rfl, rfl⟩
  · exact .inl ⟨j, i, rfl, rfl⟩
  · exact .inr ⟨b, a, rfl, rfl⟩
theorem Two.alike {x y : PyData} (h : Two x y) : PySem.W.alike x y = true := by
  rcases h with ⟨i, j, rfl, rfl⟩ | ⟨a, b, rfl, rfl⟩
  · simp only [PySem.W.alike]
  · simp only [PySem.W.alike]
    exact PySem.W.alikeAll_map a b
theorem Two.some {x y : PyData} (h : Two x y) : x ≠ .none := by
  rcases h with ⟨i, j, rfl, rfl⟩ | ⟨a, b, rfl, rfl⟩ <;> exact fun z => by cases z
theorem ints_lay : ∀ a : List Int, PyData.canLayAll0 (a.map PyData.int) = true
  | [] => by simp [PyData.canLayAll0]
  | i :: r => by simp [PyData.canLayAll0, PyData.canLay0, ints_lay r]
theorem ints_depth : ∀ a : List Int, PyData.depthAll (a.map PyData.int) = 0
  | [] => by simp [PyData.depthAll]
  | i :: r => by simp [PyData.depthAll, PyData.depth, ints_depth r]
theorem Two.lay {x y : PyData} (h : Two x y) : x.canLay0 = true := by
  rcases h with ⟨i, j, rfl, rfl⟩ | ⟨a, b, rfl, rfl⟩
  · rfl
  · simp [PyData.canLay0, ints_lay]
theorem Two.depth {x y : PyData} (h : Two x y) : x.depth ≤ 1 := by
  rcases h with ⟨i, j, rfl, rfl⟩ | ⟨a, b, rfl, rfl⟩
  · simp [PyData.depth]
  · simp [PyData.depth, ints_depth]
section
variable {c : Cc} {X : Cx} {σ : L2.St} {ρ : En} {S : Hd} {H : Hp} {Q : VK} {a b e : Expr} {ia ib ie : E} {pos p kpos : Pos}
theorem ord_sound {op : CmpOp} {o : Cm} {u v : V} {d d' : PyData} {r : Bool} (ho : cmOf op = some o) (hr : ordD o d d' = some r) (hu : X.A.units + 65 < cLine) (hx : Dw X.K S H u d) (hy : Dw X.K S H v d') (q : Q (.bl r) H) : RW X (compareOp op) u v H Q := by
  unfold ordD at hr
  split at hr
  · rename_i hc
    obtain ⟨k, rfl⟩ := tup_inv hc.1
    obtain ⟨l, rfl⟩ := tup_inv hc.2
    have t : Two (.tuple (k.map PyData.int)) (.tuple (l.map PyData.int)) := .inr ⟨k, l, rfl, rfl⟩
    have hdx := Dq.dp _ _ t.lay hx.dq
    have hdy := Dq.dp _ _ t.symm.lay hy.dq
    have dp := t.depth
    intro pins s σ' v' u' I rx ry
    obtain ⟨as, r1⟩ := Dp.reads I _ _ _ hdx rx
    obtain ⟨bs, r2⟩ := Dp.reads I _ _ _ hdy ry
    have hum : X.A.units + min (PyData.tuple (k.map PyData.int)).depth (PyData.tuple (l.map PyData.int)).depth < cLine := by
      have := Nat.min_le_left (PyData.tuple (k.map PyData.int)).depth (PyData.tuple (l.map PyData.int)).depth
      omega
    cases op <;> cases ho <;> simp only at hr <;> first | (cases hr; done) | skip
    · refine PySem.W.lt_data r1 r2 t.alike t.some hum ?_
      rw [t.lt]; cases hr; exact ⟨.bl _, H, I, rfl, q⟩
    · refine PySem.W.le_data r1 r2 t.alike t.some hum ?_
      rw [t.symm.lt]; cases hr; exact ⟨.bl _, H, I, rfl, q⟩
    · refine PySem.W.gt_data r1 r2 t.alike t.some hum ?_
      rw [t.symm.lt]; cases hr; exact ⟨.bl _, H, I, rfl, q⟩
    · refine PySem.W.ge_data r1 r2 t.alike t.some hum ?_
      rw [t.lt]; cases hr; exact ⟨.bl _, H, I, rfl, q⟩
  · cases hr
theorem sx_ord {op : CmpOp} {o : Cm} (ha : SX c X a ia) (hb : SX c X b ib) (ho : cmOf op = some o) (hu : X.A.units + 65 < cLine) (hm : behindInMarks op b = false) : SX c X (.Compare a [op] [b] pos) (.ord o ia ib) := by
  refine sx_of (fun ρ S σ H Q hd en hp => we_of (pe_cmpR rw_ok pe_we pe_we hm) ?_) rfl
  have hp : PostG c X.K σ ρ S H (GE X.K σ H) Q (bnd (vwOf ia ρ (ev c.cl ia ρ)) fun x ρ1 => bnd (vwOf ib ρ1 (ev c.cl ib ρ1)) fun y ρ2 => match reD ia ρ2 x with
    | some x => ofO ρ2 ((ordD o x y).map fun b => .dat (.bool b))
    | none => .bad) := hp
  refine ha.sv ρ S σ H _ hd en (post_bnd hp fun x ρ1 h1 u S1 H1 f1 en1 s1 g1 => ?_)
  refine hb.sv ρ1 S1 σ H1 _ f1.dm en1 (post_bnd (post_shiftE f1 s1 h1) fun y ρ2 h2 v S2 H2 f2 en2 s2 g2 => ?_)
  have h2 := post_shiftE f2 s2 h2
  cases hr : reD ia ρ2 x with
  | none => rw [hr] at h2; exact h2.elim
  | some x' =>
    rw [hr] at h2
    obtain ⟨r, e1, q⟩ := primB f2.dm en2 h2
    exact ord_sound ho e1 hu (g1.later f2 en2 hr) (g2.now f2.dm en2) q
end
/-! ### min, max of three -/
section
variable {prog : Program} {w : World} {A : Around} {Er : Value → Shared → Prop} {s : Shared}
theorem min3H {va vb vc : Value} {Qf : Value → Shared → Prop}
    (hw : wpAny (model prog w) A.in1 (pyIter (.ref s.heap.objs.size)) (fun it t => ∃ I fp wr G n P St Hq bt, it = .ref I ∧ WalksS prog w A.in1 I fp wr G n P St ∧ St 0 t ∧ (∀ b ∈ fp, b < t.heap.objs.size) ∧ 0 < n ∧
      (∀ b o, Hq.get? b = some o → b ∉ wr) ∧ (∀ b o, Hq.get? b = some o → t.heap.get? b = some o) ∧ CmpIn prog w A.in1 .Lt Hq P bt ∧ ∀ v s', P (argBest bt (n - 1)) v → Moved wr G t s' → Qf v s') Er
      { s with heap := s.heap.push { cls := .type "tuple", data := .seq #[va, vb, vc] } }) :
    wpAny (model prog w) A (call (.builtin "min") [va, vb, vc]) Qf Er s := by
  have nm : (toString "min" ++ toString ".loop" : String) = "min.loop" := by decide
  refine call_function_tree F.kind_min F.plain_min F.entry_min (F.args_min3 va vb vc) ?_
  refine wpAny_bind (wpAny_of_eq (show Builtin.Builtins.bindParams "min" ["key", "default"] 0 ⟨[], []⟩ = pure [none, none] from rfl) ?_) |> fun z => (show wpAny _ A.in1 (Builtin.Builtins.bindParams "min" ["key", "default"] 0 ⟨[], []⟩ >>= _) _ _ s from z)
  refine (show wpAny _ A.in1 (newTuple [va, vb, vc] >>= _) _ _ s from wpAny_bind (wpAny_newObj_type ?_))
  refine wpAny_bind (wpAny_mono hw (fun it t ht => ?_) fun _ _ z => z)
  obtain ⟨I, fp, wr, G, n, P, St, Hq, bt, rfl, W, st0, hfp, n0, nw, keep, cmp, fin⟩ := ht
  refine wpAny_bind (wpAny_newObj_type ?_)
  have nS : t.heap.objs.size ∉ fp := fun z => Nat.lt_irrefl _ (hfp _ z)
  rw [nm]
  refine wpAny_pure ⟨plainId_quiet F.plain_min_loop _, codeAny_min_loop_firstH W Hq nw bt cmp t.heap.objs.size nS (fresh_in keep) _ n0 (fun b o z => Heap.get?_push_of_some _ (keep b o z)) (W.frame 0 t _ t.toks st0 (Nat.le_refl _) fun b _ o z => Heap.get?_push_of_some _ z) (Heap.get?_push_size _ rfl) fun v s' hP m => ?_⟩
  exact fin v s' hP (Moved.drop_new (tk := t.toks) m (Nat.le_refl _))
theorem max3H {va vb vc : Value} {Qf : Value → Shared → Prop}
    (hw : wpAny (model prog w) A.in1 (pyIter (.ref s.heap.objs.size)) (fun it t => ∃ I fp wr G n P St Hq bt, it = .ref I ∧ WalksS prog w A.in1 I fp wr G n P St ∧ St 0 t ∧ (∀ b ∈ fp, b < t.heap.objs.size) ∧ 0 < n ∧
      (∀ b o, Hq.get? b = some o → b ∉ wr) ∧ (∀ b o, Hq.get? b = some o → t.heap.get? b = some o) ∧ CmpIn prog w A.in1 .Gt Hq P bt ∧ ∀ v s', P (argBest bt (n - 1)) v → Moved wr G t s' → Qf v s') Er
      { s with heap := s.heap.push { cls := .type "tuple", data := .seq #[va, vb, vc] } }) :
    wpAny (model prog w) A (call (.builtin "max") [va, vb, vc]) Qf Er s := by
  have nm : (toString "max" ++ toString ".loop" : String) = "max.loop" := by decide
  refine call_function_tree F.kind_max F.plain_max F.entry_max (F.args_max3 va vb vc) ?_
  refine wpAny_bind (wpAny_of_eq (show Builtin.Builtins.bindParams "max" ["key", "default"] 0 ⟨[], []⟩ = pure [none, none] from rfl) ?_) |> fun z => (show wpAny _ A.in1 (Builtin.Builtins.bindParams "max" ["key", "default"] 0 ⟨[], []⟩ >>= _) _ _ s from z)
  refine (show wpAny _ A.in1 (newTuple [va, vb, vc] >>= _) _ _ s from wpAny_bind (wpAny_newObj_type ?_))
  refine wpAny_bind (wpAny_mono hw (fun it t ht => ?_) fun _ _ z => z)
  obtain ⟨I, fp, wr, G, n, P, St, Hq, bt, rfl, W, st0, hfp, n0, nw, keep, cmp, fin⟩ := ht
  refine wpAny_bind (wpAny_newObj_type ?_)
  have nS : t.heap.objs.size ∉ fp := fun z => Nat.lt_irrefl _ (hfp _ z)
  rw [nm]
  refine wpAny_pure ⟨plainId_quiet F.plain_max_loop _, codeAny_max_loop_firstH W Hq nw bt cmp t.heap.objs.size nS (fresh_in keep) _ n0 (fun b o z => Heap.get?_push_of_some _ (keep b o z)) (W.frame 0 t _ t.toks st0 (Nat.le_refl _) fun b _ o z => Heap.get?_push_of_some _ z) (Heap.get?_push_size _ rfl) fun v s' hP m => ?_⟩
  exact fin v s' hP (Moved.drop_new (tk := t.toks) m (Nat.le_refl _))
end
/-- the one that is chosen -/
def pick3 (mx : Bool) (x y z : PyData) : Nat := if betD mx (if betD mx x y = true then y else x) z = true then 2 else if betD mx x y = true then 1 else 0
theorem pick_lt {mx : Bool} {x y z : PyData} : pick3 mx x y z < 3 := by
  have h : ∀ b1 b2 : Bool, (if b2 = true then 2 else if b1 = true then 1 else 0) < 3 := by decide
  exact h _ _
theorem pick_best {mx : Bool} {x y z : PyData} : bestD mx x [y, z] = [x, y, z].getD (pick3 mx x y z) .none := by
  show (if betD mx (if betD mx x y = true then y else x) z = true then z else (if betD mx x y = true then y else x)) = _
  unfold pick3
  cases h1 : betD mx x y with
  | true =>
    simp only [if_true]
    cases h2 : betD mx y z <;> rfl
  | false =>
    simp only [Bool.false_eq_true, if_false]
    cases h2 : betD mx x z <;> rfl
section
variable {c : Cc} {X : Cx} {σ : L2.St} {ρ : En} {S : Hd} {H : Hp} {Q : VK} {a b e : Expr} {ia ib ie : E} {pos p kpos : Pos}
theorem cr_mm3 (mx : Bool) (hc : X.calm = true) (hu : X.A.units + 65 < cLine) : CallR X (.builtin (if mx then "max" else "min")) (fun xs H Q => ∃ x y z dx dy dz, xs = [x, y, z] ∧ DpAll X.K H [x, y, z] [dx, dy, dz] ∧ intTup dx = true ∧ intTup dy = true ∧ intTup dz = true ∧
    ∀ v, [x, y, z][pick3 mx dx dy dz]? = some v → Q v H) := by
  intro pins s σ H xs us Q I r h
  obtain ⟨x, y, z, dx, dy, dz, rfl, hd, tx, ty, tz, q⟩ := h
  obtain ⟨as, rs⟩ := Dp.readsAll I _ _ us hd r
  obtain ⟨ux, uy, uz, rfl, rx, ry, rz⟩ : ∃ ux uy uz, us = [ux, uy, uz] ∧ RelV x ux ∧ RelV y uy ∧ RelV z uz := by
    cases r with
    | cons r1 r => cases r with
      | cons r2 r => cases r with
        | cons r3 r => cases r; exact ⟨_, _, _, rfl, r1, r2, r3⟩
  obtain ⟨kx, rfl⟩ := tup_inv tx
  obtain ⟨ky, rfl⟩ := tup_inv ty
  obtain ⟨kz, rfl⟩ := tup_inv tz
  have two : ∀ k l : List Int, Two (.tuple (k.map PyData.int)) (.tuple (l.map PyData.int)) := fun k l => .inr ⟨k, l, rfl, rfl⟩
  have al : PySem.W.AlikeAll [.tuple (kx.map PyData.int), .tuple (ky.map PyData.int), .tuple (kz.map PyData.int)] := by
    constructor
    · intro d hd e he
      simp only [List.mem_cons, List.not_mem_nil, or_false] at hd he
      rcases hd with rfl | rfl | rfl <;> rcases he with rfl | rfl | rfl <;> exact (two _ _).alike
    · intro d hd
      simp only [List.mem_cons, List.not_mem_nil, or_false] at hd
      rcases hd with rfl | rfl | rfl <;> exact fun z => by cases z
  have dep : PyData.depthAll [.tuple (kx.map PyData.int), .tuple (ky.map PyData.int), .tuple (kz.map PyData.int)] ≤ 1 := by
    simp [PyData.depthAll, PyData.depth, ints_depth]
  have hT : (s.heap.push { cls := .type "tuple", data := .seq #[ux, uy, uz] }).IsTuple s.heap.objs.size #[ux, uy, uz] := ⟨_, Heap.get?_push_size _ rfl, rfl, 0, rfl⟩
  have keep0 : ∀ b o, s.heap.get? b = some o → (s.heap.push { cls := .type "tuple", data := .seq #[ux, uy, uz] }).get? b = some o := fun b o z => Heap.get?_push_of_some _ z
  have rs' : ReadsAll (s.heap.push { cls := .type "tuple", data := .seq #[ux, uy, uz] }) (#[ux, uy, uz] : Array Value).toList [.tuple (kx.map PyData.int), .tuple (ky.map PyData.int), .tuple (kz.map PyData.int)] as := ReadsAll.keeps keep0 rs
  have fin : ∀ (v : Value) (h' : Heap) (tk : Nat) (g : Nat), g = pick3 mx (.tuple (kx.map PyData.int)) (.tuple (ky.map PyData.int)) (.tuple (kz.map PyData.int)) → (#[ux, uy, uz] : Array Value)[g]? = some v → (∀ b o, s.heap.get? b = some o → h'.get? b = some o) → EP X pins σ Q v { s with heap := h', toks := tk } := by
    intro v h' tk g hg hv keep
    have hlt : g < 3 := by
      rw [hg]
      exact pick_lt
    have q := q
    rw [← hg] at q
    have : g = 0 ∨ g = 1 ∨ g = 2 := by omega
    rcases this with rfl | rfl | rfl
    · cases hv; exact ⟨x, H, I.kept keep, rx, q x rfl⟩
    · cases hv; exact ⟨y, H, I.kept keep, ry, q y rfl⟩
    · cases hv; exact ⟨z, H, I.kept keep, rz, q z rfl⟩
  have lt3 : ∀ i j, i < 3 → j < 3 → PySem.W.dataLt ([PyData.tuple (kx.map PyData.int), .tuple (ky.map PyData.int), .tuple (kz.map PyData.int)].getD i .none) ([PyData.tuple (kx.map PyData.int), .tuple (ky.map PyData.int), .tuple (kz.map PyData.int)].getD j .none) = ltD ([PyData.tuple (kx.map PyData.int), .tuple (ky.map PyData.int), .tuple (kz.map PyData.int)].getD i .none) ([PyData.tuple (kx.map PyData.int), .tuple (ky.map PyData.int), .tuple (kz.map PyData.int)].getD j .none) := by
    intro i j hi hj
    have h1 : i = 0 ∨ i = 1 ∨ i = 2 := by omega
    have h2 : j = 0 ∨ j = 1 ∨ j = 2 := by omega
    rcases h1 with rfl | rfl | rfl <;> rcases h2 with rfl | rfl | rfl <;> exact (two _ _).lt
  cases mx with
  | false =>
    refine min3H (PySem.W.iter_tupleW (A := X.A.in1) (I.ok.hd hc) hT fun t e W st hfp hw hk => ?_)
    refine ⟨_, _, _, _, _, _, _, _, _, rfl, W, st, hfp, by simp, hw, hk, PySem.W.cmpIn_lt (A := X.A.in1) rs' al (by show X.A.units + 1 + _ < _; omega), fun v s' hP m => ?_⟩
    obtain ⟨h', tk, rfl, hk'⟩ := PySem.W.moved_old e rfl m
    refine fin v h' tk _ ?_ hP fun b o z => hk' b o (keep0 b o z)
    show argBest _ 2 = _
    have e1 : argBest (fun i j => PySem.W.dataLt ([PyData.tuple (kx.map PyData.int), .tuple (ky.map PyData.int), .tuple (kz.map PyData.int)].getD i .none) ([PyData.tuple (kx.map PyData.int), .tuple (ky.map PyData.int), .tuple (kz.map PyData.int)].getD j .none)) 1 = if ltD (.tuple (ky.map PyData.int)) (.tuple (kx.map PyData.int)) = true then 1 else 0 := by
      show (if PySem.W.dataLt (.tuple (ky.map PyData.int)) (.tuple (kx.map PyData.int)) = true then 0 + 1 else 0) = _
      rw [(two ky kx).lt]
    unfold argBest
    rw [e1]
    unfold pick3 betD
    simp only [Bool.false_eq_true, if_false]
    by_cases h1 : ltD (.tuple (ky.map PyData.int)) (.tuple (kx.map PyData.int)) = true
    · simp only [h1, if_true]
      rw [lt3 _ _ (by omega) (by omega)]
      rfl
    · simp only [h1, if_false, Bool.false_eq_true]
      rw [lt3 _ _ (by omega) (by omega)]
      rfl
  | true =>
    refine max3H (PySem.W.iter_tupleW (A := X.A.in1) (I.ok.hd hc) hT fun t e W st hfp hw hk => ?_)
    refine ⟨_, _, _, _, _, _, _, _, _, rfl, W, st, hfp, by simp, hw, hk, PySem.W.cmpIn_gt (A := X.A.in1) rs' al (by show X.A.units + 1 + _ < _; omega), fun v s' hP m => ?_⟩
    obtain ⟨h', tk, rfl, hk'⟩ := PySem.W.moved_old e rfl m
    refine fin v h' tk _ ?_ hP fun b o z => hk' b o (keep0 b o z)
    show argBest _ 2 = _
    have e1 : argBest (fun i j => PySem.W.dataLt ([PyData.tuple (kx.map PyData.int), .tuple (ky.map PyData.int), .tuple (kz.map PyData.int)].getD j .none) ([PyData.tuple (kx.map PyData.int), .tuple (ky.map PyData.int), .tuple (kz.map PyData.int)].getD i .none)) 1 = if ltD (.tuple (kx.map PyData.int)) (.tuple (ky.map PyData.int)) = true then 1 else 0 := by
      show (if PySem.W.dataLt (.tuple (kx.map PyData.int)) (.tuple (ky.map PyData.int)) = true then 0 + 1 else 0) = _
      rw [(two kx ky).lt]
    unfold argBest
    rw [e1]
    unfold pick3 betD
    simp only [if_true]
    by_cases h1 : ltD (.tuple (kx.map PyData.int)) (.tuple (ky.map PyData.int)) = true
    · simp only [h1, if_true]
      rw [lt3 _ _ (by omega) (by omega)]
      rfl
    · simp only [h1, if_false, Bool.false_eq_true]
      rw [lt3 _ _ (by omega) (by omega)]
      rfl
theorem sx_mm3 {mx : Bool} {fn : Str} {id : String} (bl : Blt X fn (.builtin id)) (hidd : id = if mx then "max" else "min") (ha : SX c X a ia) (hb : SX c X b ib) (hx : SX c X e ie) (hc : X.calm = true) (hu : X.A.units + 65 < cLine)
    (he : starEach [a, b, e] X.env = [(false, eval a X.env), (false, eval b X.env), (false, eval e X.env)]) (he2 : starEach [b, e] X.env = [(false, eval b X.env), (false, eval e X.env)]) (he3 : starEach [e] X.env = [(false, eval e X.env)]) : SX c X (.Call (.Name fn p) [a, b, e] [] pos) (.mm3 mx ia ib ie) := by
  refine sx_of (fun ρ S σ H Q hd en hp => ?_) rfl
  have hp : PostG c X.K σ ρ S H (GE X.K σ H) Q (bnd (ev c.cl ia ρ) fun u ρ1 => bnd (ev c.cl ib ρ1) fun v ρ2 => bnd (ev c.cl ie ρ2) fun w ρ3 => match u, v, w with
    | .dat x, .dat y, .dat z => ofO ρ3 ((mm3D mx x y z).map .dat)
    | _, _, _ => .bad) := hp
  refine we_of (call_star bl (.inl ⟨_, rfl⟩) (pa_cons pe_we (pa_cons pe_we (pa_cons pe_we pa_nil he3) (by rw [he2, he3])) (by rw [he, he2])) (by rw [he, he2]) (by rw [he2]; rfl)) ?_
  refine ha.se ρ S σ H _ hd en (post_bnd hp fun d1 ρ1 h1 u S1 H1 f1 en1 s1 g1 => ?_)
  refine hb.se ρ1 S1 σ H1 _ f1.dm en1 (post_bnd (post_shiftE f1 s1 h1) fun d2 ρ2 h2 v S2 H2 f2 en2 s2 g2 => ?_)
  refine hx.se ρ2 S2 σ H2 _ f2.dm en2 (post_bnd (post_shiftE f2 s2 h2) fun d3 ρ3 h3 w S3 H3 f3 en3 s3 g3 => ?_)
  have h3 := post_shiftE f3 s3 h3
  cases d1 with
  | new ds => exact h3.elim
  | dat x =>
    cases d2 with
    | new ds => exact h3.elim
    | dat y =>
      cases d3 with
      | new ds => exact h3.elim
      | dat z =>
        obtain ⟨val, e1, q⟩ := prim f3.dm en3 h3
        have g1 : Dq X.K (hid S1 H1) u x := g1
        have g2 : Dq X.K (hid S2 H2) v y := g2
        have g3 : Dq X.K (hid S3 H3) w z := g3
        have k1 := ((g1.mono f2.hid).mono f3.hid)
        have k2 := g2.mono f3.hid
        have e1 : (mm3D mx x y z).map Val.dat = some val := e1
        unfold mm3D at e1
        split at e1
        · rename_i hc3
          cases e1
          obtain ⟨kx, rfl⟩ := tup_inv hc3.1
          obtain ⟨ky, rfl⟩ := tup_inv hc3.2.1
          obtain ⟨kz, rfl⟩ := tup_inv hc3.2.2
          have two : ∀ k l : List Int, Two (.tuple (k.map PyData.int)) (.tuple (l.map PyData.int)) := fun k l => .inr ⟨k, l, rfl, rfl⟩
          subst hidd
          refine cw_of (cr_mm3 mx hc hu) ⟨u, v, w, _, _, _, rfl, .cons (Dq.dp _ _ (two kx kx).lay (k1.mono hid_ext)) (.cons (Dq.dp _ _ (two ky ky).lay (k2.mono hid_ext)) (.cons (Dq.dp _ _ (two kz kz).lay (g3.mono hid_ext)) .nil)), hc3.1, hc3.2.1, hc3.2.2, fun r hr => ?_⟩
          refine q r S3 H3 (Fr.refl f3.dm) ?_
          show Dq X.K (hid S3 H3) r (bestD mx _ [_, _])
          rw [pick_best]
          have hlt : pick3 mx (.tuple (kx.map PyData.int)) (.tuple (ky.map PyData.int)) (.tuple (kz.map PyData.int)) < 3 := pick_lt
          generalize pick3 mx (.tuple (kx.map PyData.int)) (.tuple (ky.map PyData.int)) (.tuple (kz.map PyData.int)) = g at hr hlt
          have : g = 0 ∨ g = 1 ∨ g = 2 := by omega
          rcases this with rfl | rfl | rfl
          · cases hr; exact k1
          · cases hr; exact k2
          · cases hr; exact g3
        · cases e1
end
end Iv
end

section
set_option Elab.async false
set_option linter.all false
set_option maxRecDepth 100000
set_option maxHeartbeats 4000000
namespace Iv
open PySem PySem.Spec PyProof.Rows L2
/-! ### min, max of a list, with what is to come of an empty one -/
def Alk (xs : List PyData) : Prop := (intsOf xs).isSome = true ∨ xs.all intTup = true
theorem Alk.two {xs : List PyData} (h : Alk xs) : ∀ x ∈ xs, ∀ y ∈ xs, Two x y := by
  intro x hx y hy
  rcases h with h | h
  · cases hi : intsOf xs with
    | none => rw [hi] at h; cases h
    | some a =>
      have e := ints_inv hi
      subst e
      obtain ⟨i, _, rfl⟩ := List.mem_map.mp hx
      obtain ⟨j, _, rfl⟩ := List.mem_map.mp hy
      exact .inl ⟨i, j, rfl, rfl⟩
  · obtain ⟨k, rfl⟩ := tup_inv (List.all_eq_true.mp h x hx)
    obtain ⟨l, rfl⟩ := tup_inv (List.all_eq_true.mp h y hy)
    exact .inr ⟨k, l, rfl, rfl⟩
theorem all_small : ∀ {xs : List PyData}, (∀ x ∈ xs, Two x x) → PyData.depthAll xs ≤ 1 ∧ PyData.canLayAll0 xs = true
  | [], _ => ⟨by simp [PyData.depthAll], by simp [PyData.canLayAll0]⟩
  | x :: r, h => by
    obtain ⟨h1, h2⟩ := all_small (xs := r) fun y hy => h y (List.mem_cons_of_mem _ hy)
    have t := h x List.mem_cons_self
    have d := t.depth
    refine ⟨?_, ?_⟩
    · simp only [PyData.depthAll]
      omega
    · simp only [PyData.canLayAll0, t.lay, h2, Bool.and_self]
theorem best_fold {mx : Bool} {S : List PyData} (h2 : ∀ x ∈ S, ∀ y ∈ S, Two x y) : ∀ (l : List PyData) (x : PyData), x ∈ S → (∀ y ∈ l, y ∈ S) →
    bestD mx x l = l.foldl (fun a y => if (if mx then PySem.W.dataLt a y else PySem.W.dataLt y a) = true then y else a) x
  | [], _, _, _ => rfl
  | y :: r, x, hx, hl => by
    have hy := hl y List.mem_cons_self
    have e : (if (if mx then PySem.W.dataLt x y else PySem.W.dataLt y x) = true then y else x) = if betD mx x y = true then y else x := by
      unfold betD
      rw [(h2 x hx y hy).lt, (h2 y hy x hx).lt]
    show bestD mx (if betD mx x y = true then y else x) r = r.foldl _ (if (if mx then PySem.W.dataLt x y else PySem.W.dataLt y x) = true then y else x)
    rw [e]
    refine best_fold h2 r _ ?_ fun z hz => hl z (List.mem_cons_of_mem _ hz)
    split
    · exact hy
    · exact hx
theorem vals_at : ∀ {vs : List V} {us : List Value} {i : Nat} {u : Value}, Vals vs us → us[i]? = some u → ∃ v, vs[i]? = some v ∧ RelV v u
  | [], us, i, u, h, e => by cases h; cases e
  | v :: vs, us, i, u, h, e => by
    cases h with
    | cons h1 h2 =>
      cases i with
      | zero => cases e; exact ⟨v, rfl, h1⟩
      | succ i =>
        obtain ⟨w, hw, hr⟩ := vals_at (vs := vs) (i := i) (u := u) h2 (by simpa using e)
        exact ⟨w, by simpa using hw, hr⟩
theorem getD_some {l : List PyData} {g : Nat} {d : PyData} (hg : g < l.length) (e : l.getD g .none = d) : l[g]? = some d := by
  rw [List.getElem?_eq_getElem hg, ← e]
  simp [List.getD, List.getElem?_eq_getElem hg]
def rMMD (K : PySem.W.Frag) (mx : Bool) : List V → List V → Hp → VK → Prop := fun xs zs H Q => ∃ (q0 : Addr) (vs : List V) (ds : List PyData) (z : V), xs = [V.ref q0] ∧ zs = [z] ∧ SqL K H q0 vs ∧ DpAll K H vs ds ∧ Alk ds ∧ (ds = [] → Q z H) ∧
  ∀ (y : PyData) (ys : List PyData) (i : Nat) (v : V), ds = y :: ys → vs[i]? = some v → ds[i]? = some (bestD mx y ys) → Q v H
theorem cr_mmd {X : Cx} (mx : Bool) (hc : X.calm = true) (hu : X.A.units + 65 < cLine) : CallRK X (.builtin (if mx then "max" else "min")) [Str.ofString "default"] (rMMD X.K mx) := by
  intro pins s σ H xs zs us ws Q I r rz h
  obtain ⟨q0, vs, ds, z, rfl, rfl, hs, hd, al, q1, q2⟩ := h
  obtain ⟨its, rv, hl, _⟩ := (I.list hs)
  obtain ⟨as, rs⟩ := Dp.readsAll I _ _ its hd rv
  rw [Vals.ref1 r]
  obtain ⟨w, rfl, rw1⟩ : ∃ w, ws = [w] ∧ RelV z w := by
    cases rz with
    | cons h1 h2 => cases h2; exact ⟨_, rfl, h1⟩
  have hu2 : X.A.in1.units + PyData.depthAll ds < cLine := by
    have := (all_small fun x hx => al.two x hx x hx).1
    show X.A.units + 1 + _ < _
    omega
  have alk : PySem.W.AlikeAll ds := ⟨fun x hx y hy => (al.two x hx y hy).alike, fun x hx => (al.two x hx x hx).some⟩
  have hn : its.toArray.size = ds.length := PySem.W.readsAll_len (h := s.heap) (as := as) (by simpa using rs)
  have zero : ∀ (h' : Heap) (tk : Nat), its.toArray.size = 0 → (∀ b o, s.heap.get? b = some o → h'.get? b = some o) → EP X pins σ Q w { s with heap := h', toks := tk } := fun h' tk hz keep =>
    ⟨z, H, I.kept keep, rw1, q1 (List.eq_nil_of_length_eq_zero (by omega))⟩
  have fin : ∀ (f : PyData → PyData → Bool) (v : Value) (h' : Heap) (tk : Nat), 0 < its.toArray.size → f = (fun a b => if mx then PySem.W.dataLt b a else PySem.W.dataLt a b) →
      its.toArray[argBest (fun i j => f (ds.getD i .none) (ds.getD j .none)) (its.toArray.size - 1)]? = some v → (∀ b o, s.heap.get? b = some o → h'.get? b = some o) → EP X pins σ Q v { s with heap := h', toks := tk } := by
    intro f v h' tk hp hf hP keep
    cases hds : ds with
    | nil => rw [hn, hds] at hp; exact absurd hp (Nat.lt_irrefl 0)
    | cons y ys =>
      subst hds
      have e1 : its.toArray.size - 1 = ys.length := by rw [hn]; rfl
      obtain ⟨b1, b2⟩ := PySem.W.argBest_fold f PyData.none y ys ys.length (Nat.le_refl _)
      rw [e1] at hP
      rw [List.take_length] at b2
      generalize argBest (fun i j => f ((y :: ys).getD i .none) ((y :: ys).getD j .none)) ys.length = g at hP b1 b2
      have hP' : its[g]? = some v := by simpa using hP
      obtain ⟨x, hx, rx⟩ := vals_at rv hP'
      have bf := best_fold (mx := mx) (S := y :: ys) al.two ys y List.mem_cons_self fun a ha => List.mem_cons_of_mem _ ha
      have e3 : (y :: ys).getD g .none = bestD mx y ys := by
        rw [bf, b2, hf]
      exact ⟨x, H, I.kept keep, rx, q2 y ys g x rfl hx (getD_some (Nat.lt_succ_of_le b1) e3)⟩
  cases mx with
  | false =>
    show wpAny _ _ (call (.builtin "min") [.ref q0] [(Str.ofString "default", w)]) _ _ _
    refine call_min_walkD (PySem.W.iter_listW (A := X.A.in1) (I.ok.hd hc) hl.isList fun t e W st hfp hw hk => ?_)
    refine ⟨_, _, _, _, _, _, _, s.heap, (fun i j => PySem.W.dataLt (ds.getD i .none) (ds.getD j .none)), rfl, W, st, hfp, hw, hk, fun hz s' m => ?_, fun hp => ⟨PySem.W.cmpIn_lt (A := X.A.in1) (by simpa using rs) alk hu2, fun v s' hP m => ?_⟩⟩
    · obtain ⟨h', tk, rfl, hk'⟩ := PySem.W.moved_old e rfl m
      exact zero h' tk hz hk'
    · obtain ⟨h', tk, rfl, hk'⟩ := PySem.W.moved_old e rfl m
      exact fin PySem.W.dataLt v h' tk hp rfl hP hk'
  | true =>
    show wpAny _ _ (call (.builtin "max") [.ref q0] [(Str.ofString "default", w)]) _ _ _
    refine call_max_walkD (PySem.W.iter_listW (A := X.A.in1) (I.ok.hd hc) hl.isList fun t e W st hfp hw hk => ?_)
    refine ⟨_, _, _, _, _, _, _, s.heap, (fun i j => PySem.W.dataLt (ds.getD j .none) (ds.getD i .none)), rfl, W, st, hfp, hw, hk, fun hz s' m => ?_, fun hp => ⟨PySem.W.cmpIn_gt (A := X.A.in1) (by simpa using rs) alk hu2, fun v s' hP m => ?_⟩⟩
    · obtain ⟨h', tk, rfl, hk'⟩ := PySem.W.moved_old e rfl m
      exact zero h' tk hz hk'
    · obtain ⟨h', tk, rfl, hk'⟩ := PySem.W.moved_old e rfl m
      exact fin (fun a b => PySem.W.dataLt b a) v h' tk hp rfl hP hk'
section
variable {c : Cc} {X : Cx} {σ : L2.St} {ρ : En} {S : Hd} {H : Hp} {Q : VK} {a b e : Expr} {ia ib ie : E} {pos p kpos : Pos}
theorem sx_mmd {mx : Bool} {fn : Str} {id : String} (bl : Blt X fn (.builtin id)) (hidd : id = if mx then "max" else "min") (ha : SX c X a ia) (hb : SX c X b ib) (hc : X.calm = true) (hu : X.A.units + 65 < cLine)
    (he : starEach [a] X.env = [(false, eval a X.env)]) (hall : (backToKw pos (keywordEach [⟨some (Str.ofString "default"), b, kpos⟩] X.env)).all (·.1.isSome) = true) (hnone : (backToKw pos (keywordEach [⟨some (Str.ofString "default"), b, kpos⟩] X.env)).any (·.1.isNone) = false)
    (hks : (backToKw pos (keywordEach [⟨some (Str.ofString "default"), b, kpos⟩] X.env)).filterMap (·.1) = [Str.ofString "default"]) : SX c X (.Call (.Name fn p) [a] [⟨some (Str.ofString "default"), b, kpos⟩] pos) (.mmd mx ia ib) := by
  refine sx_of (fun ρ S σ H Q hd en hp => ?_) rfl
  have hp : PostG c X.K σ ρ S H (GE X.K σ H) Q (bnd (vwOf ia ρ (ev c.cl ia ρ)) fun x ρ1 => bnd (ev c.cl ib ρ1) fun v ρ2 => match reD ia ρ2 x, v with
    | some x, .dat d => ofO ρ2 ((mmdD mx x d).map .dat)
    | _, _ => .bad) := hp
  subst hidd
  refine we_of (pe_callBK (cr_mmd mx hc hu) bl.gl bl.mg bl.bt (pa_cons pe_we pa_nil he) (pk_cons pe_we pk_nil) bl.nn bl.nd (by rw [he]; rfl) (by rw [he]; rfl) hall hnone hks) ?_
  refine ha.sv ρ S σ H _ hd en (post_bnd hp fun d1 ρ1 h1 u S1 H1 f1 en1 s1 g1 => ?_)
  refine hb.se ρ1 S1 σ H1 _ f1.dm en1 (post_bnd (post_shiftE f1 s1 h1) fun d2 ρ2 h2 v S2 H2 f2 en2 s2 g2 => ?_)
  have h2 := post_shiftE f2 s2 h2
  cases hr : reD ia ρ2 d1 with
  | none => rw [hr] at h2; exact h2.elim
  | some x' =>
    rw [hr] at h2
    cases d2 with
    | new ds => exact h2.elim
    | dat d =>
      obtain ⟨val, e1, q⟩ := prim f2.dm en2 h2
      have g2 : Dq X.K (hid S2 H2) v d := g2
      have D1 := g1.later f2 en2 hr
      cases x' with
      | list xs =>
        obtain ⟨q0, vs, rfl, k2, k3⟩ := D1.lst
        cases xs with
        | nil =>
          cases e1
          cases k3
          exact ⟨q0, [], [], v, rfl, rfl, SqL.of k2, .nil, .inl rfl, fun _ => q v S2 H2 (Fr.refl f2.dm) g2, fun y ys i v h => by cases h⟩
        | cons y ys =>
          have e1 : (if (intsOf (y :: ys)).isSome = true ∨ (y :: ys).all intTup = true then some (bestD mx y ys) else none).map Val.dat = some val := e1
          split at e1
          · rename_i hA
            have hA : Alk (y :: ys) := hA
            cases e1
            refine ⟨q0, vs, y :: ys, v, rfl, rfl, SqL.of k2, DqA.dp _ _ (all_small fun x hx => hA.two x hx x hx).2 (k3.mono hid_ext), hA, (fun h => by cases h), fun y' ys' i w h hw hb => ?_⟩
            obtain ⟨rfl, rfl⟩ := List.cons.inj h
            obtain ⟨w', hw', hq⟩ := k3.get hb
            rw [hw] at hw'
            cases hw'
            exact q w S2 H2 (Fr.refl f2.dm) hq
          · cases e1
      | _ => cases e1
end
end Iv
end

section
set_option Elab.async false
set_option linter.all false
set_option maxRecDepth 100000
set_option maxHeartbeats 4000000
namespace Iv
open PySem PySem.Spec PyProof.Rows L2
/-! ### comprehensions of any number of fors: one clause's loop -/
section
variable {prog : Program} {w : World} {A : Around} {elt : Expr} {gs : List Comprehension} {scope : Scope} {pos : Pos} {acc : Value} {env : Env}
abbrev lcX (elt : Expr) (gs : List Comprehension) (scope : Scope) (pos : Pos) : Expr := .ListComp elt gs scope pos
/-- the tests of a clause, one behind the other -/
def ifsRun (env : Env) (fs : List Expr) : Sem Bool := forIn fs true fun f good => if good = true then isTrue f env (eval f env) >>= fun z => pure (.yield z) else pure (.yield good)
theorem turn_mid {i : Nat} {t e0 t' e1 : Expr} {fs fs' : List Expr} {it : Value} (h : gs[i]? = some ⟨t, e0, fs, 0⟩) (h' : gs[i + 1]? = some ⟨t', e1, fs', 0⟩) :
    compTurn (lcX elt gs scope pos) i it acc env = (standAt e0.pos >>= fun _ => pyNext it >>= fun r => match r with
      | none => pure (.done .next)
      | some v => letOwnedTupleGo t it v >>= fun _ => assign t env v >>= fun _ => ifsRun env fs >>= fun good =>
        if good = true then eval e1 env >>= fun x => standAt e1.pos >>= fun _ => foldedSetIterable e1 env x >>= fun x => holding [x] (pyIter x) >>= fun j => runOwn (.compStart (lcX elt gs scope pos) (i + 1) j acc env) env >>= fun _ => again (.compLoop (lcX elt gs scope pos) i it acc env)
        else again (.compLoop (lcX elt gs scope pos) i it acc env)) := by
  unfold compTurn ifsRun
  simp only [h, h']
  rfl
theorem turn_last {i : Nat} {t e0 : Expr} {fs : List Expr} {it : Value} (h : gs[i]? = some ⟨t, e0, fs, 0⟩) (h' : gs[i + 1]? = none) :
    compTurn (lcX elt gs scope pos) i it acc env = (standAt e0.pos >>= fun _ => pyNext it >>= fun r => match r with
      | none => pure (.done .next)
      | some v => letOwnedTupleGo t it v >>= fun _ => assign t env v >>= fun _ => ifsRun env fs >>= fun good =>
        if good = true then (eval elt env >>= fun y => call (.builtin "list.append") [acc, y] >>= fun _ => pure ()) >>= fun _ => again (.compLoop (lcX elt gs scope pos) i it acc env)
        else again (.compLoop (lcX elt gs scope pos) i it acc env)) := by
  unfold compTurn ifsRun
  simp only [h, h']
  rfl
/-- one turn of a clause: next, target, tests; then what is to come -/
def Turn (prog : Program) (w : World) (A : Around) (env : Env) (R : Result → Shared → Prop) (t : Expr) (fs : List Expr) (it : Value) (yes no : Shared → Prop) (s : Shared) : Prop :=
  let N := notedBy (model prog w) A env fun e s' => R (.error e) s'
  wpAny (model prog w) A (pyNext it) (fun r s1 => match r with
    | none => R (.ok .next) s1
    | some v => wpAny (model prog w) A (letOwnedTupleGo t it v) (fun _ s2 => wpAny (model prog w) A (assign t env v) (fun _ s3 =>
        wpAny (model prog w) A (ifsRun env fs) (fun good s4 => if good = true then yes s4 else no s4) N s3) N s2) N s1) N s
theorem loop_mid {R : Result → Shared → Prop} {s : Shared} {i : Nat} {t e0 t' e1 : Expr} {fs fs' : List Expr} {it : Value} (h : gs[i]? = some ⟨t, e0, fs, 0⟩) (h' : gs[i + 1]? = some ⟨t', e1, fs', 0⟩) (hs : ∀ x, foldedSetIterable e1 env x = pure x) (J : Nat → Shared → Prop)
    (turn : ∀ n s, J n s → Turn prog w A env R t fs it (fun s4 => wpAny (model prog w) A (eval e1 env) (fun x s5 => wpAny (model prog w) A (pyIter x) (fun j s6 =>
      codeAny (model prog w) A (.compStart (lcX elt gs scope pos) (i + 1) j acc env) (fun r s' => match r with
        | .ok _ => ∃ m, m < n ∧ J m s'
        | .error _ => False) s6) (notedBy (model prog w) A env fun e s' => R (.error e) s') s5) (notedBy (model prog w) A env fun e s' => R (.error e) s') s4) (fun s4 => ∃ m, m < n ∧ J m s4) s)
    (n : Nat) (h0 : J n s) : codeAny (model prog w) A (.compLoop (lcX elt gs scope pos) i it acc env) R s := by
  refine codeAny_loop rfl J (fun n s hJ => ?_) n h0
  show wpAny _ A ((compTurn (lcX elt gs scope pos) i it acc env).onRaise (fun x => do noteFrame x env; theTreesLotGoes x)) _ _ s
  refine wpAny_noted ?_
  rw [turn_mid h h']
  refine wpAny_bind (wpAny_standAt (wpAny_bind (wpAny_mono (turn n s hJ) (fun r s1 q1 => ?_) fun _ _ z => z)))
  cases r with
  | none => exact wpAny_pure q1
  | some v =>
    refine wpAny_bind (wpAny_mono q1 (fun _ s2 q2 => wpAny_bind (wpAny_mono q2 (fun _ s3 q3 => wpAny_bind (wpAny_mono q3 (fun good s4 q4 => ?_) fun _ _ z => z)) fun _ _ z => z)) fun _ _ z => z)
    cases good with
    | false => exact wpAny_pure ⟨rfl, q4⟩
    | true =>
      refine wpAny_bind (wpAny_mono q4 (fun x s5 q5 => ?_) fun _ _ z => z)
      refine wpAny_bind (wpAny_standAt (wpAny_bind (wpAny_of_eq (hs x) (wpAny_bind (wpAny_holding (wpAny_mono q5 (fun j s6 q6 => wpAny_bind (wpAny_runOwn ?_)) fun _ _ z => z))))))
      rw [Around.mark_none]
      refine codeAny_mono q6 fun r s' hr => ?_
      cases r with
      | ok f => first | exact wpAny_pure ⟨rfl, hr⟩ | exact wpAny_bind (wpAny_pure (wpAny_pure ⟨rfl, hr⟩))
      | error e => exact hr.elim
theorem loop_last {R : Result → Shared → Prop} {s : Shared} {i : Nat} {t e0 : Expr} {fs : List Expr} {it : Value} (h : gs[i]? = some ⟨t, e0, fs, 0⟩) (h' : gs[i + 1]? = none) (J : Nat → Shared → Prop)
    (turn : ∀ n s, J n s → Turn prog w A env R t fs it (fun s4 => wpAny (model prog w) A (eval elt env) (fun y s5 => wpAny (model prog w) A (call (.builtin "list.append") [acc, y]) (fun _ s6 => ∃ m, m < n ∧ J m s6)
      (notedBy (model prog w) A env fun e s' => R (.error e) s') s5) (notedBy (model prog w) A env fun e s' => R (.error e) s') s4) (fun s4 => ∃ m, m < n ∧ J m s4) s)
    (n : Nat) (h0 : J n s) : codeAny (model prog w) A (.compLoop (lcX elt gs scope pos) i it acc env) R s := by
  refine codeAny_loop rfl J (fun n s hJ => ?_) n h0
  show wpAny _ A ((compTurn (lcX elt gs scope pos) i it acc env).onRaise (fun x => do noteFrame x env; theTreesLotGoes x)) _ _ s
  refine wpAny_noted ?_
  rw [turn_last h h']
  refine wpAny_bind (wpAny_standAt (wpAny_bind (wpAny_mono (turn n s hJ) (fun r s1 q1 => ?_) fun _ _ z => z)))
  cases r with
  | none => exact wpAny_pure q1
  | some v =>
    refine wpAny_bind (wpAny_mono q1 (fun _ s2 q2 => wpAny_bind (wpAny_mono q2 (fun _ s3 q3 => wpAny_bind (wpAny_mono q3 (fun good s4 q4 => ?_) fun _ _ z => z)) fun _ _ z => z)) fun _ _ z => z)
    cases good with
    | false => exact wpAny_pure ⟨rfl, q4⟩
    | true => exact wpAny_bind (wpAny_bind (wpAny_mono q4 (fun y s5 q5 => wpAny_bind (wpAny_mono q5 (fun _ s6 q6 => wpAny_pure (wpAny_pure ⟨rfl, q6⟩)) fun _ _ z => z)) fun _ _ z => z))
end
end Iv
end

section
set_option Elab.async false
set_option linter.all false
set_option maxRecDepth 100000
set_option maxHeartbeats 4000000
namespace Iv
open PySem PySem.Spec PyProof.Rows L2
section
variable {prog : Program} {w : World} {A : Around} {elt : Expr} {gs : List Comprehension} {scope : Scope} {pos : Pos} {acc : Value} {env : Env}
theorem start_at {R : Result → Shared → Prop} {s : Shared} {i : Nat} {t e0 : Expr} {fs : List Expr} {it : Value} (hg : gs[i + 1]? = some ⟨t, e0, fs, 0⟩) (h0 : codeAny (model prog w) A (.compLoop (lcX elt gs scope pos) (i + 1) it acc env) R s)
    (h : ∀ E, wpAny (model prog w) A (pyIter it) (fun it' s' => codeAny (model prog w) A (.compLoop (lcX elt gs scope pos) (i + 1) it' acc env) R s') E s) :
    codeAny (model prog w) A (.compStart (lcX elt gs scope pos) (i + 1) it acc env) R s := by
  refine codeAny_of_tree ?_
  show wpAny _ _ ((compStart (lcX elt gs scope pos) (i + 1) it acc env).onRaise (fun x => do noteFrame x env; standAt theWindowsPlace)) _ _ s
  refine wpAny_notedAt ?_
  have ec : (clausesOf (lcX elt gs scope pos))[i + 1]? = some ⟨t, e0, fs, 0⟩ := hg
  unfold compStart
  rw [ec]
  show wpAny (model prog w) _ (ask >>= _) _ _ s
  apply wpAny_bind
  apply wpAny_askSetting
  apply wpAny_ite
  split
  · first
      | exact wpAny_pure ⟨rfl, h0⟩
      | exact wpAny_bind (wpAny_pure (wpAny_pure ⟨rfl, h0⟩))
  · apply wpAny_bind
    apply wpAny_rule
    show wpAny _ _ (standAt e0.pos >>= _) _ _ s
    exact wpAny_bind (wpAny_standAt (wpAny_bind (wpAny_mono (h _) (fun it' s' q => wpAny_pure (And.intro rfl q)) fun _ _ x => x)))
end
/-- a clause with its rules; vs: its names and those of the clauses behind it -/
structure Cl where
  tE : Expr
  iE : Expr
  fs : List Expr
  wi : TI
  g : TG
  tt : TT
  vs : List Nat
def Cl.comp (c : Cl) : Comprehension := ⟨c.tE, c.iE, c.fs, 0⟩
structure ClOk (Y : Cx) (c : Cl) : Prop where
  pi : PI Y c.tE c.iE c.wi
  pg : PG Y c.tE c.g
  pt : PTs Y c.fs c.tt
  hs : ∀ env x, foldedSetIterable c.iE env x = pure x
/-- the loops of the clauses, one within the other; D: the new list -/
def tIn (te : TE) (D : Addr) : List Cl → L2.St → (Hp → Prop) → Hp → Prop
  | [], σ, Nx, H => te σ H fun y H7 => ∃ acc, H7 D = some (.lst acc) ∧ acc.length < sizeLine ∧ Nx (upd H7 D (.lst (acc ++ [y])))
  | c :: r, σ, Nx, H => c.wi σ H fun J H4 => ∃ W : Nat → Nat → Hp → Prop, (∃ m, W 0 m H4) ∧ ∀ j k H, W j k H →
      (J.stop j H ∧ Nx H) ∨ (J.go j H ∧ ∃ N1 : Hp → Prop, (∀ H', N1 H' → ∃ k', k' < k ∧ W (j + 1) k' H') ∧
        ∀ x H', J.yld j H x H' → c.g x (L2.wipe σ c.vs) H' fun σ3 H5 => L2.wipe σ3 c.vs = L2.wipe σ c.vs ∧ c.tt σ3 H5 fun b H6 => if b = true then tIn te D r σ3 N1 H6 else N1 H6)
variable {Y : Cx} {elt : Expr} {gs : List Comprehension} {scope : Scope} {pos : Pos} {te : TE} {D : Addr}
theorem in_core (hc : Y.calm = true) (hx : Y.xe = fun _ _ => False) (he : PE Y elt te) : ∀ (r : List Cl) (c : Cl) (i : Nat), gs.drop (i + 1) = (c :: r).map Cl.comp → (∀ x ∈ c :: r, ClOk Y x) → (c :: r).Pairwise (fun a b => ∀ j ∈ b.vs, j ∈ a.vs) →
    ∀ (pins : List (Addr × Obj)) (σ : L2.St) (H : Hp) (s : Shared) (Nx : Hp → Prop) (E1 E2 : Value → Shared → Prop), Inv Y pins σ H s → tIn te D (c :: r) σ Nx H →
    wpAny (model Y.prog Y.w) Y.A (eval c.iE Y.env) (fun x s5 => wpAny (model Y.prog Y.w) Y.A (pyIter x) (fun j s6 => codeAny (model Y.prog Y.w) Y.A (.compStart (lcX elt gs scope pos) (i + 1) j (.ref D) Y.env) (fun q s' => match q with
      | .ok _ => ∃ H', Inv Y pins (L2.wipe σ c.vs) H' s' ∧ Nx H'
      | .error _ => False) s6) E1 s5) E2 s
  | r, c, i, hgs, ok, nest, pins, σ, H, s, Nx, E1, E2, I, h => by
    have okc := ok c List.mem_cons_self
    have run := okc.pi.run pins s σ H _ I h
    rw [hx] at run
    refine thnF run fun xv pa hxa => thnF hxa fun itv pb hxb => ?_
    obtain ⟨ita, fpa, tna, Ja, Ka, ea, Ia, Ta, ta, fa, Wa, ⟨ma, wa⟩, trn⟩ := hxb
    subst ea
    have hcl : gs[i + 1]? = some c.comp := by
      have := congrArg (·[0]?) hgs
      simpa using this
    have sta : ∀ {H' : Hp}, (∀ b ∈ fpa, H' b = none) → ∀ b ∈ fpa, FpOk Y pins H' b := fun hn b hb => ⟨hn b hb, (fa b hb).2⟩
    have loop1 : codeAny (model Y.prog Y.w) Y.A (.compLoop (lcX elt gs scope pos) (i + 1) (.ref ita) (.ref D) Y.env) (fun q s' => match q with
      | .ok _ => ∃ H', Inv Y pins (L2.wipe σ c.vs) H' s' ∧ Nx H'
      | .error _ => False) pb := by
      have J0 : ∃ j H', Inv Y pins (L2.wipe σ c.vs) H' pb ∧ tna j pb.heap ∧ (∀ b ∈ fpa, H' b = none) ∧ Wa j ma H' := ⟨0, Ka, Ia.weak (wipe_length _ _) (fun j v e => (wipe_some e).1), ta, fun b hb => (fa b hb).1, wa⟩
      have common : ∀ (k : Nat) (pc : Shared) (yes : Shared → Prop), (∃ j H', Inv Y pins (L2.wipe σ c.vs) H' pc ∧ tna j pc.heap ∧ (∀ b ∈ fpa, H' b = none) ∧ Wa j k H') →
          (∀ (N1 : Hp → Prop) (pn : List (Addr × Obj)) (σ' : L2.St) (H' : Hp) (s' : Shared), Inv Y pn σ' H' s' → tIn te D r σ' N1 H' → L2.wipe σ' c.vs = L2.wipe σ c.vs →
            (∀ (σ2 : L2.St) (H2 : Hp) (s2 : Shared), Inv Y pn σ2 H2 s2 → (L2.wipe σ c.vs).length = σ2.length → (∀ (j : Nat) v, (L2.wipe σ c.vs)[j]? = some (some v) → σ2[j]? = some (some v)) → N1 H2 →
              ∃ m, m < k ∧ ∃ j H', Inv Y pins (L2.wipe σ c.vs) H' s2 ∧ tna j s2.heap ∧ (∀ b ∈ fpa, H' b = none) ∧ Wa j m H') → yes s') →
          Iv.Turn Y.prog Y.w Y.A Y.env (fun q s' => match q with
            | .ok _ => ∃ H', Inv Y pins (L2.wipe σ c.vs) H' s' ∧ Nx H'
            | .error _ => False) c.tE c.fs (.ref ita) yes (fun s2 => ∃ m, m < k ∧ ∃ j H', Inv Y pins (L2.wipe σ c.vs) H' s2 ∧ tna j s2.heap ∧ (∀ b ∈ fpa, H' b = none) ∧ Wa j m H') pc := by
        rintro k pc yes ⟨j, Kb, Ib, tb, na, w12⟩ hyes
        unfold Iv.Turn
        rcases trn j k Kb w12 with ⟨stp, nxa⟩ | ⟨goa, N1, hN1, stpa⟩
        · refine thnF (Ta.done Y rfl rfl rfl hc j _ pc (L2.wipe σ c.vs) Kb (fun _ _ => False) Ib (sta na) tb stp) fun r pd ⟨hr, Ic⟩ => ?_
          subst hr
          exact ⟨Kb, Ic, nxa⟩
        · refine thnF (Ta.item Y rfl rfl rfl hc j _ pc (L2.wipe σ c.vs) Kb (fun _ _ => False) Ib (sta na) tb goa) fun r pd ⟨ua, hr, hbb⟩ => ?_
          subst hr
          refine thnF hbb fun _ pe ⟨xa, Kc, Id1, rb, yb, tc, nb⟩ => ?_
          have Ix' := Id1.pinned (sta nb) (Ta.obj _ _ tc)
          have pgr := okc.pg.run _ pe (L2.wipe σ c.vs) Kc xa ua _ Ix' rb (stpa xa Kc yb)
          rw [hx] at pgr
          refine thnF pgr fun _ pf ⟨σa, Kd, Ie, hwa, qa⟩ => ?_
          have ptr := okc.pt.run _ pf σa Kd _ Ie qa
          rw [hx] at ptr
          refine thnF ptr fun bq pg1 ⟨Ke, Ig, qb⟩ => ?_
          have fin1 : ∀ (σ2 : L2.St) (H2 : Hp) (s2 : Shared), Inv Y (pins ++ pinsAt fpa pe.heap) σ2 H2 s2 → (L2.wipe σ c.vs).length = σ2.length → (∀ (j : Nat) v, (L2.wipe σ c.vs)[j]? = some (some v) → σ2[j]? = some (some v)) → N1 H2 →
              ∃ m, m < k ∧ ∃ j H', Inv Y pins (L2.wipe σ c.vs) H' s2 ∧ tna j s2.heap ∧ (∀ b ∈ fpa, H' b = none) ∧ Wa j m H' := fun σ2 H2 s2 I' hl hk nx => by
            obtain ⟨m', hm, w'⟩ := hN1 H2 nx
            have pin' : ∀ b ∈ fpa, ∀ o, pe.heap.get? b = some o → s2.heap.get? b = some o ∧ H2 b = none := fun b hb o e =>
              let held := I'.pin (b, o) (List.mem_append_right _ (List.mem_append_right _ (mem_pinsAt hb e)))
              ⟨held.1, held.2.1⟩
            refine ⟨m', hm, j + 1, H2, I'.unpinned.weak hl hk, Ta.keep _ _ _ tc fun b hb o e => (pin' b hb o e).1, fun b hb => ?_, w'⟩
            obtain ⟨o, e, _⟩ := Ta.obj _ _ tc b hb
            exact (pin' b hb o e).2
          cases bq with
          | false =>
            rw [if_neg Bool.false_ne_true] at qb ⊢
            exact fin1 σa Ke pg1 Ig (by rw [← hwa, wipe_length]) (fun j v e => by rw [← hwa] at e; exact (wipe_some e).1) qb
          | true =>
            rw [if_pos rfl] at qb ⊢
            exact hyes N1 _ σa Ke pg1 Ig qb hwa fin1
      cases r with
      | nil =>
        refine loop_last (gs := gs) (i := i + 1) hcl (by
          have := congrArg (·[1]?) hgs
          simpa using this) (fun k s' => ∃ j H', Inv Y pins (L2.wipe σ c.vs) H' s' ∧ tna j s'.heap ∧ (∀ b ∈ fpa, H' b = none) ∧ Wa j k H') (fun k pc hJ => common k pc _ hJ fun N1 pn σ' H' s' I' q hw fin1 => ?_) ma J0
        have per := he.run pn s' σ' H' _ I' q
        rw [hx] at per
        refine thnF per fun z ph ⟨yv, Kf, Ih, rh, acc, hDh, hzh, nx⟩ => ?_
        exact app_ok Ih hDh hzh rh fun pk Ij => fin1 _ _ _ Ij (by rw [← hw, wipe_length]) (fun j v e => by rw [← hw] at e; exact (wipe_some e).1) nx
      | cons c' r' =>
        have okc' := ok c' (List.mem_cons_of_mem _ List.mem_cons_self)
        have hv : ∀ j ∈ c'.vs, j ∈ c.vs := (List.pairwise_cons.mp nest).1 c' List.mem_cons_self
        refine loop_mid (gs := gs) (i := i + 1) hcl (t' := c'.tE) (e1 := c'.iE) (fs' := c'.fs) (by
          have := congrArg (·[1]?) hgs
          show gs[i + 1 + 1]? = some c'.comp
          simpa using this) (okc'.hs _) (fun k s' => ∃ j H', Inv Y pins (L2.wipe σ c.vs) H' s' ∧ tna j s'.heap ∧ (∀ b ∈ fpa, H' b = none) ∧ Wa j k H') (fun k pc hJ => common k pc _ hJ fun N1 pn σ' H' s' I' q hw fin1 => ?_) ma J0
        have deep := in_core hc hx he r' c' (i + 1) (by rw [← List.drop_drop, hgs]; rfl) (fun x hx => ok x (List.mem_cons_of_mem _ hx)) (List.pairwise_cons.mp nest).2 pn σ' H' s' N1
        refine wpAny_mono (deep _ _ I' q) (fun x s5 q5 => wpAny_mono q5 (fun j s6 q6 => codeAny_mono q6 fun r s2 hr => ?_) fun _ _ z => z) fun _ _ z => z
        cases r with
        | error e => exact hr.elim
        | ok f =>
          obtain ⟨H2, I2, nx⟩ := hr
          refine fin1 _ _ _ I2 (by rw [← hw, wipe_length, wipe_length]) (fun j v e => ?_) nx
          rw [← hw] at e
          obtain ⟨a1, a2⟩ := wipe_some e
          rw [wipe_out fun z => a2 (hv j z)]
          exact a1
    exact start_at hcl loop1 (fun E => Ta.self Y.A 0 _ _ _ ta loop1)
end Iv
end

section
set_option Elab.async false
set_option linter.all false
set_option maxRecDepth 100000
set_option maxHeartbeats 4000000
namespace Iv
open PySem PySem.Spec PyProof.Rows L2
variable {X : Cx}
/-- [elt for .. in .. (and more clauses, r)]; vs: the block's names -/
def tLcN (c : Cl) (r : List Cl) (te : TE) : TE := fun σ H Q => c.wi σ H fun J H1 => ∀ D, H1 D = none → ∃ W : Nat → Nat → Hp → Prop, (∃ m, W 0 m (upd H1 D (.lst []))) ∧ ∀ i m H, W i m H →
  (J.stop i H ∧ Q (.ref D) H) ∨ (J.go i H ∧ ∃ Nx : Hp → Prop, (∀ H', Nx H' → ∃ m', m' < m ∧ W (i + 1) m' H') ∧ ∀ x H', J.yld i H x H' →
    c.g x (L2.wipe σ c.vs) H' fun σ2 H2 => L2.wipe σ2 c.vs = L2.wipe σ c.vs ∧ c.tt σ2 H2 fun b H3 => if b = true then tIn te D r σ2 Nx H3 else Nx H3)
abbrev Blks (X : Cx) (scope : Scope) (P : Cx → Prop) : Prop := ∀ (s : Shared) (H : Hp) (C : Addr) (cl : List (Str × Addr)) (fp : List Addr), P (X.blk s H scope (compEnvC scope cl C X.env) fp)
theorem lcN_core {pins : List (Addr × Obj)} {s : Shared} {σ : L2.St} {H : Hp} {Q : VK} {elt : Expr} {c : Cl} {r : List Cl} {scope : Scope} {own : List (Str × Nat)} {pos pos' : Pos} {te : TE} {use : Option (Value → Sem Unit)} {Qf : Value → Shared → Prop}
    (hc : X.calm = true) (hN : X.N.Nodup) (I : Inv X pins σ H s) (hi : PI X c.tE c.iE c.wi) (ok : BlkOk X.N X.env.scope scope own) (hvs : own.map (·.2) = c.vs) (nest : (c :: r).Pairwise (fun a b => ∀ j ∈ b.vs, j ∈ a.vs))
    (hg : Blks X scope fun Y => PG Y c.tE c.g) (ht : Blks X scope fun Y => PTs Y c.fs c.tt) (hr : Blks X scope fun Y => ∀ x ∈ r, ClOk Y x) (he : Blks X scope fun Y => PE Y elt te) (hs : ∀ x, foldedSetIterable c.iE X.env x = pure x)
    (h : tLcN c r te σ H Q)
    (done : ∀ D C s' m H', Inv X pins σ H' s' → Q (.ref D) H' → s'.heap.Ns C m → FpOk X pins H' C → compPost (model X.prog X.w) X.A X.xe use Qf (.ref D) C (.ok .next) s') :
    wpAny (model X.prog X.w) X.A (comprehension (lcX elt ((c :: r).map Cl.comp) scope pos) scope X.env pos' (newList []) false (eval c.iE X.env) use) Qf X.xe s := by
  have hfr : ∀ y ∈ scope.names, y.2 = .free → ∃ a, X.env.cells.lookup y.1 = some a := fun y hy e => (ok.free y hy e).elim (fun k => I.ok.has _ (.inl k)) fun k => I.ok.has _ (.inr k)
  refine wpAny_comprehension_free (use := use) rfl hs (closure_ok hfr) ok.kind (fun y hy e => by rw [ok.uniq y hy, e])
    (thn (hi.run pins s σ H _ I h) fun xv sa hx => thn hx fun itv sb hq => ?_)
  obtain ⟨it, fp, tn, J, Hb, e, Ib, T, tb, fb, q⟩ := hq
  subst e
  refine wpAny_newObj_type (newEnv_comp ?_) (show 0 ≤ sizeLine by decide)
  generalize hD : sb.heap.objs.size = D
  have hDn : Hb D = none := Ib.hok.fresh (Nat.le_of_eq hD)
  obtain ⟨W, ⟨m0, w0⟩, turn⟩ := (q D hDn)
  generalize hsc : ({ sb with heap := sb.heap.push { cls := .type "list", data := .seq ([] : List Value).toArray } } : Shared) = sc
  have Ic : Inv X pins σ (upd Hb D (.lst [])) sc := by
    rw [← hsc]
    refine Ib.laid (t' := sb.toks) (fun b o z => Heap.get?_push_of_some _ z) (Nat.le_of_eq hD) ⟨Nat.zero_le _, [], 0, .nil, ?_⟩
    rw [← hD]
    exact (Heap.get?_push_size _ rfl)
  have hh : sc.heap = sb.heap.push { cls := .type "list", data := .seq ([] : List Value).toArray } := by rw [← hsc]
  have small : ∀ b ∈ fp, b < sb.heap.objs.size := fun b hb => by
    obtain ⟨o, z, _⟩ := T.obj _ _ tb b hb
    exact Heap.lt_size z
  have fc : ∀ b ∈ fp, FpOk X pins (upd Hb D (.lst [])) b ∧ b < sc.heap.objs.size := fun b hb => by
    have hlt := small b hb
    refine ⟨⟨?_, (fb b hb).2⟩, by rw [hh, Heap.size_push]; exact Nat.lt_succ_of_lt hlt⟩
    rw [upd_ne (show _ ≠ D by rw [← hD]; exact Nat.ne_of_lt hlt)]
    exact (fb b hb).1
  have tc : tn 0 sc.heap := T.keep _ _ _ tb fun b _ o z => by rw [hh]; exact Heap.get?_push_of_some _ z
  have Id1 := block_start Ic ok hN fc
  generalize hkl : cellsFrom (sc.heap.objs.size + 1) scope.names (cloFrom X.env.cells scope.names []) = kl at Id1 ⊢
  have pgg := hg sc (upd Hb D (.lst [])) sc.heap.objs.size kl fp
  have ptt := ht sc (upd Hb D (.lst [])) sc.heap.objs.size kl fp
  have pee := he sc (upd Hb D (.lst [])) sc.heap.objs.size kl fp
  have prr := hr sc (upd Hb D (.lst [])) sc.heap.objs.size kl fp
  show codeAny _ _ (.compStart (lcX elt ((c :: r).map Cl.comp) scope pos) 0 (.ref it) (.ref D) (compEnvC scope kl sc.heap.objs.size X.env)) (compPost (model X.prog X.w) X.A X.xe use Qf (.ref D) sc.heap.objs.size) { sc with heap := pushCells (sc.heap.push { cls := .type "dict", data := .dict #[] }) scope.names }
  have nfp : ∀ b ∈ fp, (upd Hb D (.lst [])) b = none := fun b hb => (fc b hb).1.1
  generalize hce : compEnvC scope kl sc.heap.objs.size X.env = ev1 at Id1 pgg ptt pee prr ⊢
  have cL : ev1.locals = sc.heap.objs.size := by rw [← hce]; rfl
  generalize hHc : upd Hb D (.lst []) = Hc at Ic Id1 pgg ptt pee prr w0 nfp fc
  generalize hsd : ({ sc with heap := pushCells (sc.heap.push { cls := .type "dict", data := .dict #[] }) scope.names } : Shared) = sd at Id1 ⊢
  have td : tn 0 sd.heap := T.keep _ _ _ tc fun b _ o z => by rw [← hsd]; exact pushCells_keeps _ _ _ _ (Heap.get?_push_of_some _ z)
  have st : ∀ {pins : List (Addr × Obj)} {σ' : L2.St} {H' : Hp} {s' : Shared}, Inv (X.blk sc Hc scope ev1 fp) [] σ' H' s' → (∀ b ∈ fp, H' b = none) → ∀ b ∈ fp, FpOk (X.blk sc Hc scope ev1 fp) [] H' b :=
    fun {pins σ' H' s'} I' hn b hb => ⟨hn b hb, (I'.ok.exf b hb).1, I'.ok.exfs b hb, .inl hb, fun x a z => (I'.ok.exf b hb).2 x a z, fun p hp => absurd (show p ∈ ([] : List (Addr × Obj)) ++ [] from hp) (by simp)⟩
  rw [hvs] at Id1
  have J0 : ∃ j H', Inv (X.blk sc Hc scope ev1 fp) [] (L2.wipe σ c.vs) H' sd ∧ tn j sd.heap ∧ (∀ b ∈ fp, H' b = none) ∧ W j m0 H' := ⟨0, Hc, Id1, td, nfp, w0⟩
  have common : ∀ (k : Nat) (pc : Shared) (yes : Shared → Prop), (∃ j H', Inv (X.blk sc Hc scope ev1 fp) [] (L2.wipe σ c.vs) H' pc ∧ tn j pc.heap ∧ (∀ b ∈ fp, H' b = none) ∧ W j k H') →
      (∀ (N1 : Hp → Prop) (pn : List (Addr × Obj)) (σ' : L2.St) (H' : Hp) (s' : Shared), Inv (X.blk sc Hc scope ev1 fp) pn σ' H' s' → tIn te D r σ' N1 H' → L2.wipe σ' c.vs = L2.wipe σ c.vs →
        (∀ (σ2 : L2.St) (H2 : Hp) (s2 : Shared), Inv (X.blk sc Hc scope ev1 fp) pn σ2 H2 s2 → (L2.wipe σ c.vs).length = σ2.length → (∀ (j : Nat) v, (L2.wipe σ c.vs)[j]? = some (some v) → σ2[j]? = some (some v)) → N1 H2 →
          ∃ m, m < k ∧ ∃ j H', Inv (X.blk sc Hc scope ev1 fp) [] (L2.wipe σ c.vs) H' s2 ∧ tn j s2.heap ∧ (∀ b ∈ fp, H' b = none) ∧ W j m H') → yes s') →
      Iv.Turn X.prog X.w X.A ev1 (compPost (model X.prog X.w) X.A X.xe use Qf (.ref D) sc.heap.objs.size) c.tE c.fs (.ref it) yes (fun s2 => ∃ m, m < k ∧ ∃ j H', Inv (X.blk sc Hc scope ev1 fp) [] (L2.wipe σ c.vs) H' s2 ∧ tn j s2.heap ∧ (∀ b ∈ fp, H' b = none) ∧ W j m H') pc := by
    rintro k pc yes ⟨j, Kb, Ib, tb, na, w12⟩ hyes
    unfold Iv.Turn
    rcases turn j k Kb w12 with ⟨stp, nxa⟩ | ⟨goa, N1, hN1, stpa⟩
    · refine thnF (T.done (X.blk sc Hc scope ev1 fp) rfl rfl rfl hc j _ pc (L2.wipe σ c.vs) Kb (fun _ _ => False) Ib (st (pins := []) Ib na) tb stp) fun r pd ⟨hr, Ie⟩ => ?_
      subst hr
      have If : Inv X pins σ Kb pd := Ic.call' (ch := fp) Ie.os Ie.base Ie.hok Ie.bare fun b hb => ⟨(fc b hb).1.2.2.2.1, (fc b hb).1.2.1, (fc b hb).1.2.2.2.2.1, (fc b hb).1.2.2.2.2.2⟩
      have nC : Kb sc.heap.objs.size = none := by
        have z : Kb ev1.locals = none := Ie.free
        rw [cL] at z
        exact z
      obtain ⟨m, hn, _⟩ := Ie.loc
      have hn : pd.heap.Ns ev1.locals m := hn
      rw [cL] at hn
      exact done D sc.heap.objs.size pd m Kb If nxa hn (Ic.fpOk (Nat.le_refl _) nC)
    · refine thnF (T.item (X.blk sc Hc scope ev1 fp) rfl rfl rfl hc j _ pc (L2.wipe σ c.vs) Kb (fun _ _ => False) Ib (st (pins := []) Ib na) tb goa) fun r pd ⟨ua, hr, hbb⟩ => ?_
      subst hr
      refine thnF hbb fun _ pe ⟨xa, Kc, Id2, rb, yb, tc2, nb⟩ => ?_
      have Ix' := Id2.pinned (st (pins := []) Id2 nb) (T.obj _ _ tc2)
      refine thnF (pgg.run _ pe (L2.wipe σ c.vs) Kc xa ua _ Ix' rb (stpa xa Kc yb)) fun _ pf ⟨σa, Kd, Ie, hwa, qa⟩ => ?_
      refine thnF (ptt.run _ pf σa Kd _ Ie qa) fun bq pg1 ⟨Ke, Ig, qb⟩ => ?_
      have fin1 : ∀ (σ2 : L2.St) (H2 : Hp) (s2 : Shared), Inv (X.blk sc Hc scope ev1 fp) ([] ++ pinsAt fp pe.heap) σ2 H2 s2 → (L2.wipe σ c.vs).length = σ2.length → (∀ (j : Nat) v, (L2.wipe σ c.vs)[j]? = some (some v) → σ2[j]? = some (some v)) → N1 H2 →
          ∃ m, m < k ∧ ∃ j H', Inv (X.blk sc Hc scope ev1 fp) [] (L2.wipe σ c.vs) H' s2 ∧ tn j s2.heap ∧ (∀ b ∈ fp, H' b = none) ∧ W j m H' := fun σ2 H2 s2 I' hl hk nx => by
        obtain ⟨m', hm, w'⟩ := hN1 H2 nx
        have pin' : ∀ b ∈ fp, ∀ o, pe.heap.get? b = some o → s2.heap.get? b = some o ∧ H2 b = none := fun b hb o e =>
          let held := I'.pin (b, o) (List.mem_append_right _ (List.mem_append_right _ (mem_pinsAt hb e)))
          ⟨held.1, held.2.1⟩
        refine ⟨m', hm, j + 1, H2, (I'.unpinned (pins := [])).weak hl hk, T.keep _ _ _ tc2 fun b hb o e => (pin' b hb o e).1, fun b hb => ?_, w'⟩
        obtain ⟨o, e, _⟩ := T.obj _ _ tc2 b hb
        exact (pin' b hb o e).2
      cases bq with
      | false =>
        rw [if_neg Bool.false_ne_true] at qb ⊢
        exact fin1 σa Ke pg1 Ig (by rw [← hwa, wipe_length]) (fun j v e => by rw [← hwa] at e; exact (wipe_some e).1) qb
      | true =>
        rw [if_pos rfl] at qb ⊢
        exact hyes N1 _ σa Ke pg1 Ig qb hwa fin1
  have loop : codeAny (model X.prog X.w) X.A (.compLoop (lcX elt ((c :: r).map Cl.comp) scope pos) 0 (.ref it) (.ref D) ev1) (compPost (model X.prog X.w) X.A X.xe use Qf (.ref D) sc.heap.objs.size) sd := by
    cases r with
    | nil =>
      refine loop_last (gs := [c].map Cl.comp) (i := 0) rfl rfl (fun k s' => ∃ j H', Inv (X.blk sc Hc scope ev1 fp) [] (L2.wipe σ c.vs) H' s' ∧ tn j s'.heap ∧ (∀ b ∈ fp, H' b = none) ∧ W j k H') (fun k pc hJ => common k pc _ hJ fun N1 pn σ' H' s' I' q hw fin1 => ?_) m0 J0
      refine thnF (pee.run pn s' σ' H' _ I' q) fun z ph ⟨yv, Kf, Ih, rh, acc, hDh, hzh, nx⟩ => ?_
      exact app_ok (X := X.blk sc Hc scope ev1 fp) Ih hDh hzh rh fun pk Ij => fin1 _ _ _ Ij (by rw [← hw, wipe_length]) (fun j v e => by rw [← hw] at e; exact (wipe_some e).1) nx
    | cons c' r' =>
      have okc' := prr c' List.mem_cons_self
      have hv : ∀ j ∈ c'.vs, j ∈ c.vs := (List.pairwise_cons.mp nest).1 c' List.mem_cons_self
      refine loop_mid (gs := (c :: c' :: r').map Cl.comp) (i := 0) rfl (t' := c'.tE) (e1 := c'.iE) (fs' := c'.fs) rfl (okc'.hs _) (fun k s' => ∃ j H', Inv (X.blk sc Hc scope ev1 fp) [] (L2.wipe σ c.vs) H' s' ∧ tn j s'.heap ∧ (∀ b ∈ fp, H' b = none) ∧ W j k H') (fun k pc hJ => common k pc _ hJ fun N1 pn σ' H' s' I' q hw fin1 => ?_) m0 J0
      have deep := in_core (Y := X.blk sc Hc scope ev1 fp) (D := D) (gs := (c :: c' :: r').map Cl.comp) (scope := scope) (pos := pos) hc rfl pee r' c' 0 rfl prr (List.pairwise_cons.mp nest).2 pn σ' H' s' N1
      refine wpAny_mono (deep _ _ I' q) (fun x s5 q5 => wpAny_mono q5 (fun j s6 q6 => codeAny_mono q6 fun r s2 hr => ?_) fun _ _ z => z) fun _ _ z => z
      cases r with
      | error e => exact hr.elim
      | ok f =>
        obtain ⟨H2, I2, nx⟩ := hr
        refine fin1 _ _ _ I2 (by rw [← hw, wipe_length, wipe_length]) (fun j v e => ?_) nx
        rw [← hw] at e
        obtain ⟨a1, a2⟩ := wipe_some e
        rw [wipe_out fun z => a2 (hv j z)]
        exact a1
  exact codeAny_compStart_list loop (T.self X.A 0 _ _ _ td loop)
/-- as a value -/
theorem pe_lcN {elt : Expr} {c : Cl} {r : List Cl} {scope : Scope} {own : List (Str × Nat)} {pos : Pos} {te : TE}
    (hc : X.calm = true) (hN : X.N.Nodup) (hi : PI X c.tE c.iE c.wi) (ok : BlkOk X.N X.env.scope scope own) (hvs : own.map (·.2) = c.vs) (nest : (c :: r).Pairwise (fun a b => ∀ j ∈ b.vs, j ∈ a.vs))
    (hg : Blks X scope fun Y => PG Y c.tE c.g) (ht : Blks X scope fun Y => PTs Y c.fs c.tt) (hr : Blks X scope fun Y => ∀ x ∈ r, ClOk Y x) (he : Blks X scope fun Y => PE Y elt te) (hs : ∀ x, foldedSetIterable c.iE X.env x = pure x) :
    PE X (lcX elt ((c :: r).map Cl.comp) scope pos) (tLcN c r te) := by
  refine ⟨fun pins s σ H Q I (h : tLcN c r te σ H Q) => ?_⟩
  show wpAny _ _ (eval (.ListComp elt ((c :: r).map Cl.comp) scope pos) X.env) _ _ s
  rw [eval_ListComp]
  refine lcN_core hc hN I hi ok hvs nest hg ht hr he hs h fun L C s' m H' I' q hn f => ⟨m, hn, fun hp sb => ?_⟩
  obtain ⟨a0, a1, a2, a3, a4, a5⟩ := f
  exact ⟨.ref L, H', I'.turned (t' := s'.toks) (fun b o hb z => (sb.2 b hb).trans z) a0 a1 a3 a4 a5, rfl, q⟩
/-- y = [..] -/
theorem ps_setLcN {i : Nat} {y : Str} {py spos : Pos} {elt : Expr} {c : Cl} {r : List Cl} {scope : Scope} {own : List (Str × Nat)} {pos : Pos} {te : TE}
    (hc : X.calm = true) (hN : X.N.Nodup) (hy : X.N[i]? = some y) (hyl : X.env.scope.names.lookup y = some .local) (hsw : swapsWith (lcX elt ((c :: r).map Cl.comp) scope pos) (some (.Name y py)) spos.line X.env = pure true)
    (hi : PI X c.tE c.iE c.wi) (ok : BlkOk X.N X.env.scope scope own) (hvs : own.map (·.2) = c.vs) (nest : (c :: r).Pairwise (fun a b => ∀ j ∈ b.vs, j ∈ a.vs))
    (hg : Blks X scope fun Y => PG Y c.tE c.g) (ht : Blks X scope fun Y => PTs Y c.fs c.tt) (hr : Blks X scope fun Y => ∀ x ∈ r, ClOk Y x) (he : Blks X scope fun Y => PE Y elt te) (hs : ∀ x, foldedSetIterable c.iE X.env x = pure x) :
    PS X (.Assign [.Name y py] (lcX elt ((c :: r).map Cl.comp) scope pos) spos) (tAsg (tLcN c r te) (gName i)) := by
  refine ⟨fun pins s σ H D I h => (?_ : _)⟩
  (rw [exec_Assign_Name_used _ _ _ _ hsw])
  refine (wpAny_bind (wpAny_standAt (wpAny_bind ?_)))
  show wpAny _ X.A (do let _ ← comprehension (lcX elt ((c :: r).map Cl.comp) scope pos) scope X.env (firstIterPos ((c :: r).map Cl.comp) pos) (newList []) false (eval c.iE X.env) (some (assign (.Name y py) X.env))) _ _ s
  have h0 : tLcN c r te σ H (fun x H1 => gName i x σ H1 D.nx) := h
  refine wpAny_bind (thn (lcN_core (Qf := fun _ s' => L2.SP X pins D .next s') hc hN I hi ok hvs nest hg ht hr he hs h0 fun L C s' m H' I' q hn f => ?_) fun _ s' hq => wpAny_pure (wpAny_pure hq))
  show wpAny _ X.A (assign (.Name y py) X.env (.ref L)) _ _ _
  refine wpAny_assign_Name (store_ok2 (v := V.ref L) I' hN hy (.inl hyl) rfl (fun sg I2 ⟨a, sb, ha⟩ => ?_) (.inr hyl))
  obtain ⟨a0, a1, a2, a3, a4, a5⟩ := f
  have hne : C ≠ a := by
    rcases ha with z | z
    · rw [z]; exact a1
    · exact fun e => a4 y a z e.symm
  exact ⟨m, hn.sameBut sb hne, fun hp sb3 => ⟨_, H', I2.turned (t' := sg.toks) (fun b o hb z => (sb3.2 b hb).trans z) a0 a1 a3 a4 a5, q⟩⟩
end Iv
end

section
set_option Elab.async false
set_option linter.all false
set_option maxRecDepth 100000
set_option maxHeartbeats 4000000
namespace Iv
open PySem L2
/-! ### three fors -/
abbrev Inr := List PyData → En → R En (List PyData × En)
def inn1 (cl : Orc) (k : Src) (src : E) (tg : Tg) (test elt : E) : Inr := fun acc ρ2 => bnd (evs cl src ρ2) fun as ρ3 => match (argsD as).bind (srcD k) with
  | some items => compGo (ev cl test) (ev cl elt) tg items acc (wipeE ρ3 tg.slots)
  | none => .bad
def inn2 (cl : Orc) (k : Src) (src : E) (tg : Tg) (test : E) (us : List Nat) (inner : Inr) : Inr := fun acc ρ2 => bnd (evs cl src ρ2) fun as ρ3 => match (argsD as).bind (srcD k) with
  | some items => comp2Go (ev cl test) inner tg (tg.slots ++ us) items acc (wipeE ρ3 (tg.slots ++ us))
  | none => .bad
def Grows (inner : Inr) : Prop := ∀ acc ρ acc1 ρ1, inner acc ρ = .ok (acc1, ρ1) → acc.length ≤ acc1.length
theorem grows1 {cl : Orc} {k : Src} {src : E} {tg : Tg} {test elt : E} : Grows (inn1 cl k src tg test elt) := by
  intro acc ρ acc1 ρ1 h
  unfold inn1 at h
  cases hr : evs cl src ρ with
  | bad => rw [hr] at h; cases h
  | exc z ρ' => rw [hr] at h; cases h
  | ok r =>
    obtain ⟨as, ρ'⟩ := r
    rw [hr] at h
    simp only [bnd] at h
    split at h
    · exact comp_len h
    · cases h
theorem grows2 {cl : Orc} {k : Src} {src : E} {tg : Tg} {test : E} {us : List Nat} {inner : Inr} (hin : Grows inner) : Grows (inn2 cl k src tg test us inner) := by
  intro acc ρ acc1 ρ1 h
  unfold inn2 at h
  cases hr : evs cl src ρ with
  | bad => rw [hr] at h; cases h
  | exc z ρ' => rw [hr] at h; cases h
  | ok r =>
    obtain ⟨as, ρ'⟩ := r
    rw [hr] at h
    simp only [bnd] at h
    split at h
    · exact comp2_len hin h
    · cases h
theorem InL.ext {K : PySem.W.Frag} {O : Addr → Prop} {Sb : Hd} {Hb : Hp} {D : Addr} {G G' : Hp} {σw : St} {go : List PyData → En → Prop} {Hc : Hp} (h : InL K O Sb Hb D G σw go Hc) (e : Ext G' G) : InL K O Sb Hb D G' σw go Hc := by
  obtain ⟨S', ρ', acc, us, a1, a2, a3, a4, a5, a6, a7, a8⟩ := h
  exact ⟨S', ρ', acc, us, a1, a2, a3, a4, a5, a6, e.trans a7, a8⟩
/-- what the inner clauses do is what inner says -/
structure InnOk (X : Cx) (O : Addr → Prop) (Sb : Hd) (Hb : Hp) (D : Addr) (T : St → (Hp → Prop) → Hp → Prop) (inner : Inr) (us : List Nat) : Prop where
  go : ∀ {σ2 : St} {ρ3 : En} {S3 : Hd} {H3 : Hp} {acc : List PyData} {vs : List V} {acc1 : List PyData} {ρ4 : En} {Nx : Hp → Prop}, Fr Sb Hb O S3 H3 → EnOk X.K S3 H3 σ2 ρ3 → (∀ p, Owns σ2 ρ3 p → O p) → S3 D = true → H3 D = some (.lst vs) → DqA X.K (hid S3 H3) vs acc →
    inner acc ρ3 = .ok (acc1, ρ4) → acc1.length ≤ big → (∀ Hd, InL X.K O Sb Hb D (hid S3 H3) (wipe σ2 us) (fun acc ρ' => acc = acc1 ∧ ρ' = ρ4) Hd → Nx Hd) → T σ2 Nx H3
section
variable {c : Cc} {X : Cx} {tgE iter elt : Expr} {ifs : List Expr} {scope : Scope} {k : Src} {src test x : E} {tg : Tg} {pos : Pos} {us : List Nat} {inner : Inr}
/-- the clause with its rules -/
def clB (X : Cx) (scope : Scope) (tgE iter : Expr) (ifs : List Expr) (vs : List Nat) : Cl := ⟨tgE, iter, ifs, iB X scope tgE iter, gB X scope tgE, tB' X scope ifs, vs⟩
theorem in_last {O : Addr → Prop} {Sb : Hd} {Hb : Hp} {D : Addr} (hi : ∀ Y, Bk X scope Y → SI (calm0 c) Y k tgE iter src) (hg : ∀ Y, Bk X scope Y → SG Y tgE tg) (ht : ∀ Y, Bk X scope Y → STs (calm0 c) Y ifs test) (he : ∀ Y, Bk X scope Y → SX (calm0 c) Y elt x) (hD : Hb D = none) (hDo : ¬ O D) :
    InnOk X O Sb Hb D (tIn (eB X scope elt) D [clB X scope tgE iter ifs tg.slots]) (inn1 c.cl k src tg test x) tg.slots := by
  refine ⟨fun {σ2 ρ3 S3 H3 acc vs acc1 ρ4 Nx} f3 en3 own3 hS hH hacc hin hz hN => ?_⟩
  show iB X scope tgE iter σ2 H3 _
  intro Y hY
  have hK := hY.K
  refine hi Y hY ρ3 S3 σ2 H3 _ f3.dm (by rw [hK]; exact en3) ?_
  rw [hK]
  show PostG _ _ _ _ _ _ _ _ (bnd (evs c.cl src ρ3) _)
  unfold inn1 at hin
  cases her : evs c.cl src ρ3 with
  | bad => rw [her] at hin; cases hin
  | exc w ρ' => rw [her] at hin; cases hin
  | ok r =>
    obtain ⟨as1, ρ5⟩ := r
    rw [her] at hin
    simp only [bnd] at hin ⊢
    cases hsr : (argsD as1).bind (srcD k) with
    | none => rw [hsr] at hin; cases hin
    | some items =>
      rw [hsr] at hin
      simp only at hin
      intro J1 S5 H5 f5 en5 s5 g5
      have g5 : DW X.K (hid S5 H5) tgE J1 items := g5
      have hDz5 : ¬ Owns σ2 ρ3 D := fun w => hDo (own3 D w)
      obtain ⟨q3, q4⟩ := f5.hidn D hS hDz5
      obtain ⟨enw5, subw5⟩ := en_wipe en5 tg.slots
      have f15 : Fr Sb Hb O S5 H5 := f3.trans f5 fun p w => .inl (own3 p w)
      exact in_loop hg ht he (O := O) (Sb := Sb) (Hb := Hb) (D := D) (dsF := acc1) (ρF := ρ4) hD hDo hz g5
        ⟨S5, _, acc, vs, f15, enw5, fun p w => own3 p (s5 p (subw5 p w)), q3, q4.trans hH, hacc.mono f5.hid, fun _ _ h => h, hin⟩ fun Hd q => hN Hd (q.ext f5.hid)
/-- a loop whose turns are loops -/
theorem mid_loop {vs : List Nat} (hg : ∀ Y, Bk X scope Y → SG Y tgE tg) (ht : ∀ Y, Bk X scope Y → STs (calm0 c) Y ifs test) (hmt : ∀ j ∈ tg.slots, j ∈ vs) (hmu : ∀ j ∈ us, j ∈ vs) (hlin : Grows inner)
    {O : Addr → Prop} {Sb : Hd} {Hb : Hp} {D : Addr} {σ2 : St} {G : Hp} {J : It} {items : List PyData} {dsF : List PyData} {ρF : En} {H4 : Hp} {Qd : Hp → Prop} {T : St → (Hp → Prop) → Hp → Prop} (hD : Hb D = none) (hDo : ¬ O D) (hz : dsF.length ≤ big)
    (inn : InnOk X O Sb Hb D T inner us) (g1 : DW X.K G tgE J items)
    (h0 : InL X.K O Sb Hb D G (wipe σ2 vs) (fun acc ρ' => comp2Go (ev c.cl test) inner tg vs items acc ρ' = .ok (dsF, ρF)) H4)
    (hd : ∀ Hc, InL X.K O Sb Hb D G (wipe σ2 vs) (fun acc ρ' => acc = dsF ∧ ρ' = ρF) Hc → Qd Hc) :
    ∃ W : Nat → Nat → Hp → Prop, (∃ m, W 0 m H4) ∧ ∀ i m H, W i m H → (J.stop i H ∧ Qd H) ∨ (J.go i H ∧ ∃ Nx : Hp → Prop, (∀ H', Nx H' → ∃ m', m' < m ∧ W (i + 1) m' H') ∧
      ∀ v H', J.yld i H v H' → gB X scope tgE v (wipe σ2 vs) H' fun σ3 H5 => wipe σ3 vs = wipe σ2 vs ∧ tB' X scope ifs σ3 H5 fun b H6 => if b = true then T σ3 Nx H6 else Nx H6) := by
  refine turns_it g1 (Pv := fun i Hc => InL X.K O Sb Hb D G (wipe σ2 vs) (fun acc ρ' => comp2Go (ev c.cl test) inner tg vs (items.drop i) acc ρ' = .ok (dsF, ρF)) Hc) h0 ?_ ?_ ?_
  · rintro i Hc _ ⟨S', ρ', acc, ws, f, _, _, _, _, _, e, _⟩
    exact e.trans hid_ext
  · rintro i v Hc Hc' hin ⟨S', ρ', acc, ws, f, enc, sbc, hSD, hHD, hacc, hex, hgo⟩ y
    obtain ⟨d, e1, fy, hv⟩ := yd_fr f.dm hex y
    have edr := drop_at e1
    rw [edr] at hgo
    unfold comp2Go at hgo
    have hDn : ¬ Owns (wipe σ2 vs) ρ' D := fun z => hDo (sbc D z)
    have ency := enc.step0 fy
    obtain ⟨hSD1, hHD1⟩ := fy.hidn D hSD fun z => z
    cases htg : tgGo tg d ρ' with
    | none => rw [htg] at hgo; cases hgo
    | some ρ2 =>
      rw [htg] at hgo
      simp only at hgo
      intro Y hY
      have hK := hY.K
      refine hg Y hY (wipe σ2 vs) ρ' S' Hc' v d ρ2 _ (by rw [hK]; exact ency) (by rw [hK]; exact hv) htg fun σ3 z => ?_
      have enz := z.en
      rw [hK] at enz
      have ew : L2.wipe σ3 vs = L2.wipe σ2 vs := (z.ag.wipes hmt).trans (wipe_sub fun _ h => h)
      refine ⟨ew, fun Y2 hY2 => ?_⟩
      have hK2 := hY2.K
      have hDz : ¬ Owns σ3 ρ2 D := fun w => hDn (z.own D w)
      refine ht Y2 hY2 ρ2 S' σ3 Hc' _ fy.dm (by rw [hK2]; exact enz) ?_
      rw [hK2]
      show PostT _ _ _ _ _ _ _ (ev c.cl test ρ2)
      cases het : ev c.cl test ρ2 with
      | bad => rw [het] at hgo; cases hgo
      | exc w ρ' => rw [het] at hgo; cases hgo
      | ok r =>
        obtain ⟨val, ρ3⟩ := r
        rw [het] at hgo
        cases val with
        | new ds => cases hgo
        | dat d3 =>
          cases d3 with
          | bool b =>
            intro S3 H3 f3 en3 s3
            have own3 : ∀ p, Owns σ3 ρ3 p → O p := fun p w => sbc p (z.own p (s3 p w))
            have f13 : Fr Sb Hb O S3 H3 := (f.trans (fy.imp fun _ w => w.elim (C := False)) fun _ w => w.elim).trans f3 fun p w => .inl (sbc p (z.own p w))
            obtain ⟨q1, q2⟩ := f3.hidn D (by exact hSD1) hDz
            have hH3 : H3 D = some (.lst ws) := q2.trans (hHD1.trans hHD)
            have hacc3 : DqA X.K (hid S3 H3) ws acc := (hacc.mono fy.hid).mono f3.hid
            have hex3 : Ext G (hid S3 H3) := (hex.trans fy.hid).trans f3.hid
            cases b with
            | false =>
              (rw [if_neg Bool.false_ne_true])
              obtain ⟨enw3, subw3⟩ := en_wipe en3 vs
              rw [ew] at enw3 subw3
              exact ⟨S3, _, _, _, f13, enw3, fun p w => own3 p (subw3 p w), q1, hH3, hacc3, hex3, hgo⟩
            | true =>
              rw [if_pos rfl]
              simp only at hgo
              cases hin3 : inner acc ρ3 with
              | bad => rw [hin3] at hgo; cases hgo
              | exc w ρ' => rw [hin3] at hgo; cases hgo
              | ok r =>
                obtain ⟨acc1, ρ4⟩ := r
                rw [hin3] at hgo
                simp only at hgo
                have hz1 : acc1.length ≤ big := Nat.le_trans (comp2_len hlin hgo) hz
                refine inn.go f13 en3 own3 q1 hH3 hacc3 hin3 hz1 ?_
                rintro Hd ⟨S6, ρ6, acc6, us6, f6, en6, sb6, hS6, hH6, hacc6, hex6, rfl, rfl⟩
                obtain ⟨enw6, subw6⟩ := en_wipe en6 vs
                have ew6 : L2.wipe (L2.wipe σ3 us) vs = L2.wipe σ2 vs := (wipe_sub hmu).trans ew
                rw [ew6] at enw6 subw6
                exact ⟨S6, _, _, us6, f6, enw6, fun p w => sb6 p (subw6 p w), hS6, hH6, hacc6, hex3.trans hex6, hgo⟩
          | _ => cases hgo
  · rintro Hc ⟨S', ρ', acc, ws, f, enc, sbc, hSD, hHD, hacc, hex, hgo⟩
    rw [List.drop_length] at hgo
    unfold comp2Go at hgo
    cases hgo
    exact hd Hc ⟨S', ρF, dsF, ws, f, enc, sbc, hSD, hHD, hacc, hex, rfl, rfl⟩
theorem in_mid {O : Addr → Prop} {Sb : Hd} {Hb : Hp} {D : Addr} {te : TE} {c' : Cl} {r : List Cl} (hi : ∀ Y, Bk X scope Y → SI (calm0 c) Y k tgE iter src) (hg : ∀ Y, Bk X scope Y → SG Y tgE tg) (ht : ∀ Y, Bk X scope Y → STs (calm0 c) Y ifs test) (hlin : Grows inner) (hD : Hb D = none) (hDo : ¬ O D)
    (inn : InnOk X O Sb Hb D (tIn te D (c' :: r)) inner us) :
    InnOk X O Sb Hb D (tIn te D (clB X scope tgE iter ifs (tg.slots ++ us) :: c' :: r)) (inn2 c.cl k src tg test us inner) (tg.slots ++ us) := by
  refine ⟨fun {σ2 ρ3 S3 H3 acc vs acc1 ρ4 Nx} f3 en3 own3 hS hH hacc hin hz hN => ?_⟩
  show iB X scope tgE iter σ2 H3 _
  intro Y hY
  have hK := hY.K
  refine hi Y hY ρ3 S3 σ2 H3 _ f3.dm (by rw [hK]; exact en3) ?_
  rw [hK]
  show PostG _ _ _ _ _ _ _ _ (bnd (evs c.cl src ρ3) _)
  unfold inn2 at hin
  cases her : evs c.cl src ρ3 with
  | bad => rw [her] at hin; cases hin
  | exc w ρ' => rw [her] at hin; cases hin
  | ok q =>
    obtain ⟨as1, ρ5⟩ := q
    rw [her] at hin
    simp only [bnd] at hin ⊢
    cases hsr : (argsD as1).bind (srcD k) with
    | none => rw [hsr] at hin; cases hin
    | some items =>
      rw [hsr] at hin
      simp only at hin
      intro J1 S5 H5 f5 en5 s5 g5
      have g5 : DW X.K (hid S5 H5) tgE J1 items := g5
      have hDz5 : ¬ Owns σ2 ρ3 D := fun w => hDo (own3 D w)
      obtain ⟨q3, q4⟩ := f5.hidn D hS hDz5
      obtain ⟨enw5, subw5⟩ := en_wipe en5 (tg.slots ++ us)
      have f15 : Fr Sb Hb O S5 H5 := f3.trans f5 fun p w => .inl (own3 p w)
      exact mid_loop hg ht (fun j h => List.mem_append_left _ h) (fun j h => List.mem_append_right _ h) hlin (O := O) (Sb := Sb) (Hb := Hb) (D := D) (dsF := acc1) (ρF := ρ4) hD hDo hz inn g5
        ⟨S5, _, acc, vs, f15, enw5, fun p w => own3 p (s5 p (subw5 p w)), q3, q4.trans hH, hacc.mono f5.hid, fun _ _ h => h, hin⟩ fun Hd q => hN Hd (q.ext f5.hid)
/-- the whole -/
theorem lcN_sound {te : TE} {r : List Cl} (hi : SI c X k tgE iter src) (hg : ∀ Y, Bk X scope Y → SG Y tgE tg) (ht : ∀ Y, Bk X scope Y → STs (calm0 c) Y ifs test) (hlin : Grows inner)
    (inn : ∀ O Sb Hb D, Hb D = none → ¬ O D → InnOk X O Sb Hb D (tIn te D r) inner us)
    {ρ : En} {S : Hd} {σ : St} {H : Hp} {Q : VK} (hd : Dm S H) (en : EnOk X.K S H σ ρ) (hp : PostG c X.K σ ρ S H (GE X.K σ H) Q (bnd (evs c.cl src ρ) fun as ρ1 => match (argsD as).bind (srcD k) with
      | some items => match comp2Go (ev c.cl test) inner tg (tg.slots ++ us) items [] (wipeE ρ1 (tg.slots ++ us)) with
        | .ok (ds, ρ2) => if ds.length ≤ big then .ok (.new ds, backE ρ1 ρ2 (tg.slots ++ us)) else .bad
        | _ => .bad
      | none => .bad)) :
    tLcN ⟨tgE, iter, ifs, WI X tgE iter, gB X scope tgE, tB' X scope ifs, tg.slots ++ us⟩ r te σ H Q := by
  have hmt : ∀ j ∈ tg.slots, j ∈ tg.slots ++ us := fun j h => List.mem_append_left _ h
  have hmu : ∀ j ∈ us, j ∈ tg.slots ++ us := fun j h => List.mem_append_right _ h
  generalize hvs : tg.slots ++ us = vs at hmt hmu hp ⊢
  have eq1 : (bnd (evs c.cl src ρ) fun as ρ1 => match (argsD as).bind (srcD k) with
      | some items => match comp2Go (ev c.cl test) inner tg vs items [] (wipeE ρ1 vs) with
        | .ok (ds, ρ2) => if ds.length ≤ big then .ok (.new ds, backE ρ1 ρ2 vs) else .bad
        | _ => .bad
      | none => .bad : R En (Val × En)) = bnd (bnd (evs c.cl src ρ) fun as ρ1 => ofO ρ1 ((argsD as).bind (srcD k))) fun items ρ1 =>
      match comp2Go (ev c.cl test) inner tg vs items [] (wipeE ρ1 vs) with
      | .ok (ds, ρ2) => if ds.length ≤ big then .ok (.new ds, backE ρ1 ρ2 vs) else .bad
      | _ => .bad := by
    cases hr : evs c.cl src ρ with
    | bad => rfl
    | exc z ρ' => rfl
    | ok r =>
      obtain ⟨as, ρ1⟩ := r
      cases hq : (argsD as).bind (srcD k) with
      | none => simp only [bnd, hq, ofO]
      | some items =>
        simp only [bnd, hq, ofO]
        all_goals rfl
  rw [eq1] at hp
  refine hi ρ S σ H _ hd en (post_bnd hp fun items ρ1 h1 J S1 H1 f1 en1 s1 g1 => ?_)
  intro D hD
  cases hf : comp2Go (ev c.cl test) inner tg vs items [] (wipeE ρ1 vs) with
  | bad => rw [hf] at h1; exact h1.elim
  | exc z ρ' => rw [hf] at h1; exact h1.elim
  | ok r =>
    obtain ⟨dsF, ρF⟩ := r
    rw [hf] at h1
    have h1 : PostG c X.K σ ρ S H (GE X.K σ H) Q (if dsF.length ≤ big then .ok (.new dsF, backE ρ1 ρF vs) else .bad) := h1
    by_cases hz : dsF.length ≤ big
    · rw [if_pos hz] at h1
      obtain ⟨enw, subw⟩ := en_wipe en1 vs
      have noD : ∀ {σ' : St} {ρ' : En}, (∀ p, Owns σ' ρ' p → Owns σ ρ1 p) → ¬ Owns σ' ρ' D := fun {σ' ρ'} sb z => by
        obtain ⟨j, s, hj, oj, ej⟩ := sb D z
        have q := en1.slot j s hj
        cases s with
        | no => cases oj
        | dat d => cases oj
        | own ds =>
          obtain ⟨p, us, e1, _, e3, _⟩ := q
          rw [ej] at e1; cases e1
          rw [hD] at e3; cases e3
        | lock ds =>
          obtain ⟨p, us, e1, _, e3, _⟩ := q
          rw [ej] at e1; cases e1
          rw [hD] at e3; cases e3
      have hDo : ¬ Owns (wipe σ vs) (wipeE ρ1 vs) D := noD subw
      have fa : Fr S1 H1 (fun _ => False) (hide S1 D) (upd H1 D (.lst [])) := Fr.allocH f1.dm hD
      refine mid_loop (vs := vs) hg ht hmt hmu hlin (O := Owns (wipe σ vs) (wipeE ρ1 vs)) (Sb := S1) (Hb := H1) (D := D) (σ2 := σ) (G := hid S1 H1) (dsF := dsF) (ρF := ρF) hD hDo hz (inn _ _ _ _ hD hDo) g1
        ⟨hide S1 D, _, [], [], fa.imp fun _ z => z.elim, enw.step0 fa, fun _ z => z, hide_same, upd_same, .nil, fa.hid, hf⟩ ?_
      rintro Hc ⟨S', ρ', acc, ws, f, enc, sbc, hSD, hHD, hacc, _, rfl, rfl⟩
      obtain ⟨enb, sbb⟩ := en_back en1 f enc sbc
      have f2 : Fr S H (Owns σ ρ) S' Hc := f1.trans f fun p w => .inl (s1 p (subw p w))
      exact h1 (.ref D) S' Hc f2 enb (s1.trans sbb) ⟨D, ws, rfl, hSD, hHD, hacc, noD sbb, f1.fresh hD⟩
    · rw [if_neg hz] at h1; exact h1.elim
end
section
variable {c : Cc} {X : Cx} {tgE iter elt tgE1 iter1 tgE2 iter2 : Expr} {ifs ifs1 ifs2 : List Expr} {scope : Scope} {k k1 k2 : Src} {src test src1 test1 src2 test2 x : E} {tg tg1 tg2 : Tg} {pos : Pos}
/-- what the printer has to give -/
structure Lc3 (c : Cc) (X : Cx) (tgE iter elt tgE1 iter1 tgE2 iter2 : Expr) (ifs ifs1 ifs2 : List Expr) (scope : Scope) (k k1 k2 : Src) (src test src1 test1 src2 test2 x : E) (tg tg1 tg2 : Tg) : Prop where
  hi : SI c X k tgE iter src
  hg : Blks X scope fun Y => SG Y tgE tg
  ht : Blks X scope fun Y => STs (calm0 c) Y ifs test
  hi1 : Blks X scope fun Y => SI (calm0 c) Y k1 tgE1 iter1 src1
  hg1 : Blks X scope fun Y => SG Y tgE1 tg1
  ht1 : Blks X scope fun Y => STs (calm0 c) Y ifs1 test1
  hi2 : Blks X scope fun Y => SI (calm0 c) Y k2 tgE2 iter2 src2
  hg2 : Blks X scope fun Y => SG Y tgE2 tg2
  ht2 : Blks X scope fun Y => STs (calm0 c) Y ifs2 test2
  he : Blks X scope fun Y => SX (calm0 c) Y elt x
  hs : ∀ z, foldedSetIterable iter X.env z = pure z
  hs1 : ∀ env z, foldedSetIterable iter1 env z = pure z
  hs2 : ∀ env z, foldedSetIterable iter2 env z = pure z
theorem bk_of {P : Cx → Prop} (h : Blks X scope P) : ∀ Y, Bk X scope Y → P Y := fun Y hY => by
  obtain ⟨s, H, C, cl, fp, rfl⟩ := hY
  exact h s H C cl fp
theorem cl_okB {Y : Cx} {vs : List Nat} (hY : Bk X scope Y) (hs : ∀ env z, foldedSetIterable iter env z = pure z) : ClOk Y (clB X scope tgE iter ifs vs) :=
  ⟨⟨fun pins s' σ H' R I h => h _ hY pins s' I⟩, ⟨fun pins s' σ H' v u Q I r h => h _ hY pins s' u I r⟩, ⟨fun pins s' σ H' Q I h => h _ hY pins s' I⟩, hs⟩
abbrev c3a (X : Cx) (tgE iter : Expr) (ifs : List Expr) (scope : Scope) (vs : List Nat) : Cl := ⟨tgE, iter, ifs, WI X tgE iter, gB X scope tgE, tB' X scope ifs, vs⟩
abbrev c3r (X : Cx) (tgE1 iter1 tgE2 iter2 : Expr) (ifs1 ifs2 : List Expr) (scope : Scope) (tg1 tg2 : Tg) : List Cl := [clB X scope tgE1 iter1 ifs1 (tg1.slots ++ tg2.slots), clB X scope tgE2 iter2 ifs2 tg2.slots]
theorem nest3 : (c3a X tgE iter ifs scope (tg.slots ++ (tg1.slots ++ tg2.slots)) :: c3r X tgE1 iter1 tgE2 iter2 ifs1 ifs2 scope tg1 tg2).Pairwise (fun a b => ∀ j ∈ b.vs, j ∈ a.vs) := by
  refine .cons ?_ (.cons ?_ (.cons ?_ .nil))
  · intro b hb j hj
    rcases (List.mem_cons.mp hb) with rfl | hb
    · exact List.mem_append_right _ hj
    · rcases (List.mem_cons.mp hb) with rfl | hb
      · exact List.mem_append_right _ (List.mem_append_right _ hj)
      · cases hb
  · intro b hb j hj
    rcases (List.mem_cons.mp hb) with rfl | hb
    · exact List.mem_append_right _ hj
    · cases hb
  · intro b hb
    cases hb
theorem lc3_sound (L : Lc3 c X tgE iter elt tgE1 iter1 tgE2 iter2 ifs ifs1 ifs2 scope k k1 k2 src test src1 test1 src2 test2 x tg tg1 tg2)
    {ρ : En} {S : Hd} {σ : St} {H : Hp} {Q : VK} (hd : Dm S H) (en : EnOk X.K S H σ ρ) (hp : PostG c X.K σ ρ S H (GE X.K σ H) Q (ev c.cl (.comp3 k src tg test k1 src1 tg1 test1 k2 src2 tg2 test2 x) ρ)) :
    tLcN (c3a X tgE iter ifs scope (tg.slots ++ (tg1.slots ++ tg2.slots))) (c3r X tgE1 iter1 tgE2 iter2 ifs1 ifs2 scope tg1 tg2) (eB X scope elt) σ H Q :=
  lcN_sound (inner := inn2 c.cl k1 src1 tg1 test1 tg2.slots (inn1 c.cl k2 src2 tg2 test2 x)) (us := tg1.slots ++ tg2.slots) L.hi (bk_of L.hg) (bk_of L.ht) (grows2 grows1)
    (fun O Sb Hb D hD hDo => in_mid (bk_of L.hi1) (bk_of L.hg1) (bk_of L.ht1) grows1 hD hDo (in_last (bk_of L.hi2) (bk_of L.hg2) (bk_of L.ht2) (bk_of L.he) hD hDo)) hd en hp
theorem c3ok {Y : Cx} (hY : Bk X scope Y) (h1 : ∀ env z, foldedSetIterable iter1 env z = pure z) (h2 : ∀ env z, foldedSetIterable iter2 env z = pure z) : ∀ y ∈ c3r X tgE1 iter1 tgE2 iter2 ifs1 ifs2 scope tg1 tg2, ClOk Y y := by
  intro y hy
  rcases (List.mem_cons.mp hy) with rfl | hy
  · exact cl_okB hY h1
  · rcases (List.mem_cons.mp hy) with rfl | hy
    · exact cl_okB hY h2
    · cases hy
theorem sx_comp3 {own : List (Str × Nat)} (hc : X.calm = true) (hN : X.N.Nodup) (ok : BlkOk X.N X.env.scope scope own) (hv : own.map (·.2) = tg.slots ++ (tg1.slots ++ tg2.slots))
    (L : Lc3 c X tgE iter elt tgE1 iter1 tgE2 iter2 ifs ifs1 ifs2 scope k k1 k2 src test src1 test1 src2 test2 x tg tg1 tg2) :
    SX c X (.ListComp elt [⟨tgE, iter, ifs, 0⟩, ⟨tgE1, iter1, ifs1, 0⟩, ⟨tgE2, iter2, ifs2, 0⟩] scope pos) (.comp3 k src tg test k1 src1 tg1 test1 k2 src2 tg2 test2 x) := by
  refine sx_of (fun ρ S σ H Q hd en hp => we_of (pe_lcN hc hN pi_wi ok hv nest3 (fun s H C cl fp => ?_) (fun s H C cl fp => ?_) (fun s H C cl fp => ?_) (fun s H C cl fp => ?_) L.hs) (lc3_sound L hd en hp)) rfl
  · exact ⟨fun pins s' σ H' v u Q I r h => h _ ⟨s, H, C, cl, fp, rfl⟩ pins s' u I r⟩
  · exact ⟨fun pins s' σ H' Q I h => h _ ⟨s, H, C, cl, fp, rfl⟩ pins s' I⟩
  · exact c3ok ⟨s, H, C, cl, fp, rfl⟩ L.hs1 L.hs2
  · exact ⟨fun pins s' σ H' Q I h => h _ ⟨s, H, C, cl, fp, rfl⟩ pins s' I⟩
theorem ss_setLc3 {P : List Nat} {i : Nat} {y : Str} {py spos : Pos} {own : List (Str × Nat)} (hc : X.calm = true) (hN : X.N.Nodup) (hy : X.N[i]? = some y) (hyl : X.env.scope.names.lookup y = some .local)
    (hsw : swapsWith (.ListComp elt [⟨tgE, iter, ifs, 0⟩, ⟨tgE1, iter1, ifs1, 0⟩, ⟨tgE2, iter2, ifs2, 0⟩] scope pos) (some (.Name y py)) spos.line X.env = pure true) (ok : BlkOk X.N X.env.scope scope own) (hv : own.map (·.2) = tg.slots ++ (tg1.slots ++ tg2.slots))
    (L : Lc3 c X tgE iter elt tgE1 iter1 tgE2 iter2 ifs ifs1 ifs2 scope k k1 k2 src test src1 test1 src2 test2 x tg tg1 tg2) :
    SS c X P (.Assign [.Name y py] (.ListComp elt [⟨tgE, iter, ifs, 0⟩, ⟨tgE1, iter1, ifs1, 0⟩, ⟨tgE2, iter2, ifs2, 0⟩] scope pos) spos) (.set i (.comp3 k src tg test k1 src1 tg1 test1 k2 src2 tg2 test2 x)) := by
  refine ss_set (T := tLcN (c3a X tgE iter ifs scope (tg.slots ++ (tg1.slots ++ tg2.slots))) (c3r X tgE1 iter1 tgE2 iter2 ifs1 ifs2 scope tg1 tg2) (eB X scope elt)) (ps_setLcN hc hN hy hyl hsw pi_wi ok hv nest3 (fun s H C cl fp => ?_) (fun s H C cl fp => ?_) (fun s H C cl fp => ?_) (fun s H C cl fp => ?_) L.hs) fun ρ S σ H Q hd en hp => lc3_sound L hd en hp
  · exact ⟨fun pins s' σ H' v u Q I r h => h _ ⟨s, H, C, cl, fp, rfl⟩ pins s' u I r⟩
  · exact ⟨fun pins s' σ H' Q I h => h _ ⟨s, H, C, cl, fp, rfl⟩ pins s' I⟩
  · exact c3ok ⟨s, H, C, cl, fp, rfl⟩ L.hs1 L.hs2
  · exact ⟨fun pins s' σ H' Q I h => h _ ⟨s, H, C, cl, fp, rfl⟩ pins s' I⟩
end
end Iv
end

section
set_option Elab.async false
set_option linter.all false
set_option maxRecDepth 100000
set_option maxHeartbeats 4000000
namespace Iv
open PySem PySem.Spec PyProof.Rows L2

/-! ### the law's own call, nothing being shown around it -/
section
variable {P : Program} {w : World} {K : PySem.W.Frag} {mg mb : Str → Option Value} {k : Nat} {fa a : Addr} {fd : FuncData} {x : Str} {sp : Sp} {s : Shared} {vs : List Value} {ns : List Int}
/-- from one abstract heap, in which at most the script is told -/
theorem enter1 {H : Hp} (kx : K.In s.heap) (gx : s.heap.Ns mainGlobals mg) (bx : s.heap.Ns builtinsNs mb) (bb : ∀ y : Str, y ≠ "__name__" → mb y = bootBuiltins y) (lim : s.heap.NoLimit) (gs : s.gens = #[])
    (ha : s.heap.get? a = some { cls := .type "list", data := .seq vs.toArray }) (hr : Room k callerA) (F : ∀ base : Heap, K.In base → base.Ns mainGlobals mg → Fok P w K mg base k fa fd [x] sp)
    (hb : ∀ (s : Shared) (u : Value), BindsTo s fd ⟨[u], []⟩ [(x, u)]) (only : Only H) (ok : HOk P w H s.heap) (at_ : ∀ b, H b ≠ none → b = a) (nk : H a ≠ none → K.lookup a = none)
    (hsp : sp [.ref a] H (fun v _ => v = .bl true) fun _ _ _ => False) :
    codeAny (model P w) callerA (.call (.ref fa) ⟨[.ref a], []⟩) (fun r s' => r = .ok (.ret (.bool true)) ∧ OldK s.heap s'.heap ∧ s'.os = s.os ∧ AllBare s'.gens) s := by
  -- no dict is told
  have nd : ∀ {b : Addr} {o : Obj} {es : Array DictEntry} {ep : Nat}, s.heap.get? b = some o → o.data = .dict es ep → H b = none := by
    intro b o es ep e d
    by_cases z : H b = none
    · exact z
    · rw [at_ b z, ha] at e
      cases e
      exact absurd d (by intro q; cases q)
  have ns' : ∀ {b : Addr} {m : Str → Option Value}, s.heap.Ns b m → (hidT s.heap H).Ns b m := by
    rintro b m ⟨o, es, ep, e, d, r⟩
    exact ⟨o, es, ep, hidT_get e (nd e d), d, r⟩
  have kb : K.In (hidT s.heap H) := by
    intro b o e
    refine hidT_get (kx b o e) ?_
    by_cases z : H b = none
    · exact z
    · have q := at_ b z
      subst q
      rw [nk z] at e
      cases e
  have mm : Mod K mg (hidT s.heap H) := by
    obtain ⟨mc, l1, l2⟩ := lim
    exact ⟨kb, ns' gx, ⟨mb, ns' bx, bb⟩, ⟨mc, ns' l1, l2⟩⟩
  have no : ∀ b : Addr, b ∉ frs ([] : List Env) := fun b z => by cases z
  have e0 : Env0 P w K mg (hidT s.heap H) callerA [] s H := ⟨rfl, mm, fun _ _ e => of_hidT e, Nat.le_of_eq (hidT_size _ _), trivial, fun b z => absurd z (no b), ok, .of_eq gs⟩
  refine codeAny_mono ((F _ kb (ns' gx)).run callerA [] s H ⟨[.ref a], []⟩ [.ref a] [.ref a] _ _ hr rfl e0 (hb s (.ref a)) (.cons rfl .nil) hsp) fun res s' h => ?_
  cases res with
  | error e =>
    obtain ⟨_, _, _, _, _, _, _, _, _, _, _, _, z⟩ := h
    exact z.elim
  | ok fl =>
    cases fl with
    | next => exact h.elim
    | brk => exact h.elim
    | cont => exact h.elim
    | ret u =>
      obtain ⟨v, H', os, br, un, ok', rv, q⟩ := h
      have q : v = .bl true := q
      subst q
      have rv : u = Value.bool true := rv
      subst rv
      refine ⟨rfl, OldK.of_keep fun b o e => ?_, os, br⟩
      rcases only b with z | ⟨ob, xs, z⟩
      · exact un.keep b o e z (no b) (by intro z; cases z)
      · have e1 := (ok b _ z).1
        have e2 := (ok' b _ (un.frzs b ob _ z)).1
        rw [e] at e1
        cases e1
        exact e2
/-- the script is told, or an object of the top -/
theorem enter (kx : K.In s.heap) (gx : s.heap.Ns mainGlobals mg) (bx : s.heap.Ns builtinsNs mb) (bb : ∀ y : Str, y ≠ "__name__" → mb y = bootBuiltins y) (lim : s.heap.NoLimit) (gs : s.gens = #[])
    (ha : s.heap.get? a = some { cls := .type "list", data := .seq vs.toArray }) (hi : IntsAre vs ns) (hl : ns.length ≤ sizeLine) (hr : Room k callerA) (F : ∀ base : Heap, K.In base → base.Ns mainGlobals mg → Fok P w K mg base k fa fd [x] sp)
    (hb : ∀ (s : Shared) (u : Value), BindsTo s fd ⟨[u], []⟩ [(x, u)]) (hsp : ∀ H : Hp, Only H → SqL K H a (ns.map V.int) → sp [.ref a] H (fun v _ => v = .bl true) fun _ _ _ => False) :
    codeAny (model P w) callerA (.call (.ref fa) ⟨[.ref a], []⟩) (fun r s' => r = .ok (.ret (.bool true)) ∧ OldK s.heap s'.heap ∧ s'.os = s.os ∧ AllBare s'.gens) s := by
  have rv := vals_ints hi
  cases hk : K.lookup a with
  | some o =>
    have e := kx a o hk
    rw [ha] at e
    cases e
    have on : Only (fun _ => none) := fun _ => .inl rfl
    exact enter1 kx gx bx bb lim gs ha hr F hb on (fun b u z => by cases z) (fun b z => absurd rfl z) (fun z => absurd rfl z) (hsp _ on (.inr ⟨_, vs.toArray, _, hk, rfl, rfl, rfl, by rw [List.size_toArray, hi.length]; exact hl, by simpa using rv⟩))
  | none =>
    have on : Only (fun b => if b = a then some (.frz { cls := .type "list", data := .seq vs.toArray } (.lst (ns.map V.int))) else none) := fun b => by
      by_cases z : b = a
      · exact .inr ⟨_, _, if_pos z⟩
      · exact .inl (if_neg z)
    refine enter1 kx gx bx bb lim gs ha hr F hb on (fun b u z => ?_) (fun b z => ?_) (fun _ => hk) (hsp _ on (.inl (.inr ⟨_, if_pos rfl⟩)))
    · by_cases y : b = a
      · subst y
        rw [if_pos rfl] at z
        cases z
        exact ⟨ha, by rw [List.length_map]; exact hl, vs, _, rv, ha⟩
      · rw [if_neg y] at z; cases z
    · by_cases y : b = a
      · exact y
      · exact absurd (if_neg y) z
end
/-- a law's end, over a head by facts -/
theorem walk_law {l : PySem.W.OpenLaw} {n k : Nat} {q : Program} {loose : List Str} {XP : (Str → Option Value) → Heap → Prop} {YP : World → Heap → Prop} {d : DefRec} {x : Str} (hn : l.most = some n) (hn2 : n ≤ sizeLine) (hdf : d.params.defaults = []) (hr : Room k callerA)
    (F : ∀ (w : World) (mg : Str → Option Value) (fa : Addr) (h : Heap), YP w h → h.Ns mainGlobals mg → mg d.name = some (.ref fa) →
      ∃ (K : PySem.W.Frag) (fd : FuncData) (sp : Sp), K.In h ∧ (∀ (s : Shared) (u : Value), BindsTo s fd ⟨[u], []⟩ [(x, u)]) ∧ (∀ (H : Hp) (a : Addr) (ns : List Int), ns.length ≤ n → Only H → SqL K H a (ns.map V.int) → sp [.ref a] H (fun v _ => v = .bl true) fun _ _ _ => False) ∧
        ∀ base : Heap, K.In base → base.Ns mainGlobals mg → Fok l.prog w K mg base k fa fd [x] sp) :
    PySem.W.WalkO q loose XP YP l.row.toRowW d [] (fun f vs => PySem.call f vs) := by
  refine Att.attach_call hn hdf ?_
  intro w s₀ s₁ mg mb fa o pm cd doc a vs ns G Y ho hd hcd hmg hobj hints hlen hg
  obtain ⟨K, fd, sp, kx, hb, hsp, hF⟩ := F w mg fa _ Y G.T.g hmg
  exact enter kx G.T.g G.T.b G.T.builtins G.T.nolimit hg hobj hints (Nat.le_trans hlen hn2) hr hF hb fun H on sq => hsp H a ns hlen on sq
/-- the script's ints as what a call is given -/
theorem script_sp {K : PySem.W.Frag} {cl : Orc} {ca : Str → Value} {f : Str} {H : Hp} {a : Addr} {ns : List Int} (h : SqL K H a (ns.map V.int)) (hrun : cl f [.d (.dict [(.none, .list (ns.map .int))])] = .ok (.dat (.bool true), [])) :
    spO K cl ca f [.ref a] H (fun v _ => v = .bl true) fun _ _ _ => False := by
  have dq : ∀ ns : List Int, DqA K (hid (fun _ => false) H) (ns.map V.int) (ns.map PyData.int) := fun ns => by
    induction ns with
    | nil => exact .nil
    | cons n r ih => exact .cons (.int n) ih
  have hh : hid (fun _ => false) H = H := by
    funext b
    unfold hid
    rw [if_neg Bool.false_ne_true]
  refine ⟨fun _ => false, _, [], fun _ z => Bool.noConfusion z, .d (.scr (xs := ns.map V.int) (by rw [hh]; exact h) (dq ns)) .nil, List.nodup_nil, ?_⟩
  rw [hrun]
  intro v S' H' f' _ pv
  have pv : Dq K (hid S' H') v (.bool true) := pv
  cases pv
  rfl
/-- keywords alone, no defaults -/
theorem kw_of {K : PySem.W.Frag} {x qual : Str} {params : Arguments} {body : List Stmt} {scope : Scope} {kws : List (Str × V)} {f : Addr} {fd : FuncData} {ps ks : List Str} {perm : List Nat} (F : FunD K x qual params body scope [] kws f fd)
    (h : ∀ (kV doc pm : Value) (an : Option Addr) (cdv ct : Value) (us : List Value), us.length = ks.length → bindArgs (PySem.W.fnOf x qual params body scope .none kV doc pm an cdv ct) ⟨[], ks.zip us⟩ = pure (ps.zip (permL perm us))) : KwOk K fd ps ks perm := by
  obtain ⟨oc, od, dV, kV, doc, pm, an, cdv, ct, osl, rfl, lk, hcd, hD, hK⟩ := F.ex
  rcases hD with ⟨_, rfl⟩ | ⟨e, _⟩
  · exact fun s us _ hl => .of_eq (h kV doc pm an cdv ct us hl)
  · exact absurd rfl e
/-- at level 0 nothing is promised -/
theorem co_zero {P : Program} {w : World} {K : PySem.W.Frag} {mg : Str → Option Value} {base : Heap} {Γ : Str → Option Fn} {ca : Str → Value} {f : Str} {fa : Addr} {fd : FuncData} {ps : List Str} {kp : List (List Str × List Nat)} (hm : mg f = some (.ref fa)) (hk : PySem.W.keepIn K (.ref fa) = true) (hb : Binds K fd ps []) (hkw : ∀ q ∈ kp, KwOk K fd ps q.1 q.2) : CO P w K mg base 0 (runF Γ 0) ca f kp := by
  have no : ∀ vs H Q E, ¬ spO K (runF Γ 0) ca f vs H Q E := fun vs H Q E ⟨_, _, _, _, _, _, z⟩ => z
  exact ⟨fa, fd, ps, ⟨fun vs H Q E h => absurd h (no vs H Q E), fun A outer s H args us vs Q E _ _ _ _ _ h => absurd h (no vs H Q E)⟩, hm, hk, hb, hkw⟩
end Iv
end

section
set_option Elab.async false
set_option linter.all false
set_option maxRecDepth 100000
set_option maxHeartbeats 4000000
namespace Iv
open PySem PySem.Spec PyProof.Rows L2
/-! ### the head's facts of exception classes -/
inductive XB | ve | le | re | oe
def XB.bm : XB → List Value
  | .ve => [.type "ValueError", .type "Exception", .type "BaseException", .type "object"]
  | .le => [.type "LookupError", .type "Exception", .type "BaseException", .type "object"]
  | .re => [.type "RuntimeError", .type "Exception", .type "BaseException", .type "object"]
  | .oe => [.type "OverflowError", .type "ArithmeticError", .type "Exception", .type "BaseException", .type "object"]
def XB.new : XB → String
  | .ve => "ValueError.__new__"
  | .le => "LookupError.__new__"
  | .re => "RuntimeError.__new__"
  | .oe => "OverflowError.__new__"
theorem XB.facts (b : XB) : ∃ (B initId : String), ExcBaseFacts B b.new initId b.bm ∧ StoreFacts B b.bm "object.__setattr__" "object" := by
  cases b with
  | ve => exact ⟨_, _, PySem.F.excBase_ValueError, PySem.F.store_ValueError⟩
  | le => exact ⟨_, _, PySem.F.excBase_LookupError, PySem.F.store_LookupError⟩
  | re => exact ⟨_, _, PySem.F.excBase_RuntimeError, PySem.F.store_RuntimeError⟩
  | oe => exact ⟨_, _, PySem.F.excBase_OverflowError, PySem.F.store_OverflowError⟩
inductive CD | own (nm : Str) | ty (n : String)
def CD.v (K : PySem.W.Frag) : CD → Value
  | .own nm => .ref (He.ga K nm)
  | .ty n => .type n
theorem CD.cls (K : PySem.W.Frag) (d : CD) : ∃ v, ClsV v (d.v K) := by
  cases d with
  | own nm => exact ⟨_, .own _⟩
  | ty n => exact ⟨_, .ty n⟩
inductive Fx
  | xc (nm f : Str) (b : XB)
  | isx (cs : List CD) (yes all : List Str)
  | exm (cs : List CD) (yes all : List Str)
def clsB (K : PySem.W.Frag) (nm : Str) (b : XB) : Bool := match K.lookup (He.ga K nm) with
  | some ⟨.type "type", _, .cls cd, sl⟩ => decide (cd.name = nm) && (decide (cd.mro = .ref (He.ga K nm) :: b.bm) && (cd.hasDict && (!cd.hasDel && (match sl.toList with
    | [_, _, _, _, some (.builtin n), _] => decide (n = b.new)
    | _ => false))))
  | _ => false
def optB (a b : Option Bool) : Bool := decide (a = b)
def Fx.ok (K : PySem.W.Frag) : Fx → Bool
  | .xc nm f b => He.eqO (PySem.W.nsIn K mainGlobals nm) (some (some (.ref (He.ga K nm)))) && (clsB K nm b &&
      (He.eqO (PySem.W.findIn K (.ref (He.ga K nm)) "__setattr__") (some (some (.builtin "object.__setattr__"))) &&
      (He.eqO (PySem.W.findIn K (.ref (He.ga K nm)) "__getattribute__") (some (some (.builtin "BaseException.__getattribute__"))) &&
      (He.eqO (PySem.W.findIn K (.ref (He.ga K nm)) "__getattr__") (some none) &&
      (He.eqO (PySem.W.findIn K (.ref (He.ga K nm)) f) (some none) &&
      (He.eqO (PySem.W.findIn K (.ref (He.ga K nm)) "__init__") (some (some (.ref (He.ma K (He.ga K nm) "__init__")))) &&
      (decide (PySem.W.typeIn K (.ref (He.ma K (He.ga K nm) "__init__")) = some (.type "function")) &&
      (PySem.W.keepIn K (.ref (He.ga K nm)) && He.eqO (PySem.W.findIn K (.ref (He.ga K nm)) "__class__") (some (some (.builtin "object.__class__")))))))))))
  | .isx cs yes all => all.all fun nm => optB (PySem.W.kitAny K (.ref (He.ga K nm)) (cs.map (CD.v K))) (some (decide (nm ∈ yes)))
  | .exm cs yes all => all.all fun nm => optB (PySem.W.exmAny K (.ref (He.ga K nm)) (cs.map (CD.v K))) (some (decide (nm ∈ yes)))
theorem clsB_ok {K : PySem.W.Frag} {nm : Str} {b : XB} (h : clsB K nm b = true) : ∃ (q : Str) (N : Addr) (bs : List Value) (sn : List Str) (sub : List Value) (ab : Bool) (col : Option Bool) (dd : Option Addr) (k0 k1 k2 k3 k5 : Option Value),
    K.lookup (He.ga K nm) = some (excClassObj nm q (He.ga K nm) N bs b.bm true sn sub ab col dd k0 k1 k2 k3 k5 b.new) := by
  unfold clsB at h
  split at h
  · rename_i dd cd sl ho
    obtain ⟨h1, h⟩ := He.ba h
    obtain ⟨h2, h⟩ := He.ba h
    obtain ⟨h3, h⟩ := He.ba h
    obtain ⟨h4, h⟩ := He.ba h
    split at h
    · rename_i k0 k1 k2 k3 n k5 hs
      have h1 := of_decide_eq_true h1
      have h2 := of_decide_eq_true h2
      have h5 := of_decide_eq_true h
      obtain ⟨nm', bs, mro, ns, qn, hd, sn, sub, ab, col, del⟩ := cd
      dsimp only at h1 h2 h3 h4
      have h4 : del = false := by simpa using h4
      subst h1 h2 h3 h4 h5
      have hsl : sl = #[k0, k1, k2, k3, some (.builtin b.new), k5] := by
        obtain ⟨l⟩ := sl
        simp only at hs
        rw [hs]
      subst hsl
      exact ⟨qn, ns, bs, sn, sub, ab, col, dd, k0, k1, k2, k3, k5, ho⟩
    · cases h
  · cases h
theorem xc_ok {K : PySem.W.Frag} {h : Heap} {mg : Str → Option Value} {nm f ql : Str} {b : XB} {p1 p2 q1 q2 q3 q4 : Pos} {fd : FuncData} (X : K.In h) (G : h.Ns mainGlobals mg) (c : (Fx.xc nm f b).ok K = true)
    (F : FunD K "__init__" ql (PySem.Ivx.iA f p1 p2) (PySem.Ivx.iB f q1 q2 q3 q4) (PySem.Ivx.iS f) [] [] (He.ma K (He.ga K nm) "__init__") fd) (fs : (("self" : Str) == f) = false) (fg : (f == ("__debug__" : Str)) = false)
    (hbi : ∀ (kV doc pm : Value) (an : Option Addr) (cdv ct u v : Value), bindArgs (PySem.W.fnOf "__init__" ql (PySem.Ivx.iA f p1 p2) (PySem.Ivx.iB f q1 q2 q3 q4) (PySem.Ivx.iS f) .none kV doc pm an cdv ct) ⟨[u, v], []⟩ = pure [(("self" : Str), u), (f, v)] ∧
      bindArgs (PySem.W.fnOf "__init__" ql (PySem.Ivx.iA f p1 p2) (PySem.Ivx.iB f q1 q2 q3 q4) (PySem.Ivx.iS f) .none kV doc pm an cdv ct) ⟨[u], [(f, v)]⟩ = pure [(("self" : Str), u), (f, v)]) :
    PySem.Ivx.XcT K mg nm f b.bm (He.ga K nm) (He.ma K (He.ga K nm) "__init__") := by
  obtain ⟨c1, c⟩ := He.ba c
  obtain ⟨c2, c⟩ := He.ba c
  obtain ⟨c3, c⟩ := He.ba c
  obtain ⟨c4, c⟩ := He.ba c
  obtain ⟨c5, c⟩ := He.ba c
  obtain ⟨c6, c⟩ := He.ba c
  obtain ⟨c7, c⟩ := He.ba c
  obtain ⟨c8, c⟩ := He.ba c
  obtain ⟨c9, c10⟩ := He.ba c
  obtain ⟨q, N, bs, sn, sub, ab, col, dd, k0, k1, k2, k3, k5, hl⟩ := clsB_ok c2
  obtain ⟨B, initId, F1, F2⟩ := b.facts
  obtain ⟨oc, od, dV, kV, doc, pm, an, cdv, ct, osl, rfl, lk, hcd, hD, hK⟩ := F.ex
  have hdv : dV = .none := by
    rcases hD with ⟨_, rfl⟩ | ⟨e, _⟩
    · rfl
    · exact absurd rfl e
  subst hdv
  exact { gC := PySem.W.mg_of X G (He.eqO_ok c1), cls := ⟨B, b.new, initId, q, N, bs, sn, sub, ab, col, dd, k0, k1, k2, k3, k5, F1, F2, hl⟩, sa := He.eqO_ok c3, ga := He.eqO_ok c4, gg := He.eqO_ok c5, noN := He.eqO_ok c6, iC := He.eqO_ok c7, tC := of_decide_eq_true c8, kC := c9,
          ca := He.eqO_ok c10, fs := fs, fg := fg, fn := ⟨oc, od, doc, pm, an, kV, cdv, ct, osl, p1, p2, q1, q2, q3, q4, ql, lk, hcd, fun u v => hbi kV doc pm an cdv ct u v⟩ }
theorem isx_ok {K : PySem.W.Frag} {mg : Str → Option Value} {cs : List CD} {yes all : List Str} (c : (Fx.isx cs yes all).ok K = true) (xc : ∀ nm ∈ all, ∃ f fI bmB, PySem.Ivx.XcT K mg nm f bmB (He.ga K nm) fI) : IsxOk K mg (cs.map (CD.v K)) yes all :=
  ⟨fun nm hm => of_decide_eq_true (List.all_eq_true.mp c nm hm), xc⟩
theorem exm_ok {K : PySem.W.Frag} {cs : List CD} {yes all : List Str} (c : (Fx.exm cs yes all).ok K = true) : ∀ nm ∈ all, PySem.W.exmAny K (.ref (He.ga K nm)) (cs.map (CD.v K)) = some (decide (nm ∈ yes)) :=
  fun nm hm => of_decide_eq_true (List.all_eq_true.mp c nm hm)
/-! ### the Hook -/
abbrev AlX : Type := He.AlD × Bool
def obsX (fa : List He.Fa) (fn : List He.DefD) (fx : List Fx) (K : PySem.W.Frag) : AlX := (He.obsD fa fn K, fx.all fun f => f.ok K)
def obsXG (n : Nat) (fa : List He.Fa) (fn : List He.DefD) (fx : List Fx) (g : Addr → Option Obj) : AlX := obsX fa fn fx (He.frG g (He.asD g n))
def hookX (n : Nat) (fa : List He.Fa) (fn : List He.DefD) (fx : List Fx) : PySem.W.Hook where
  α := AlX
  obs := fun s => obsXG n fa fn fx s.heap.get?
  val := fun _ => (He.valD fn, true)
  says := fun _ h => ∃ K : PySem.W.Frag, K.In h ∧ He.SaysD fa fn K ∧ (fx.all fun f => f.ok K) = true
  of := fun _ _ e => ⟨_, He.frG_in, congrArg Prod.fst e, congrArg Prod.snd e⟩
  keeps := fun _ _ _ ⟨K, hK, c⟩ k => ⟨K, PySem.W.Frag.In.keeps hK k, c⟩
theorem obsXG_eq {n : Nat} {fa : List He.Fa} {fn : List He.DefD} {fx : List Fx} {g : Addr → Option Obj} {s : Shared} (h : ∀ a, g a = s.heap.get? a) : obsXG n fa fn fx g = (hookX n fa fn fx).obs s := by
  have e : g = s.heap.get? := funext h
  rw [e] <;> rfl
theorem fx_at {K : PySem.W.Frag} {fx : List Fx} (c : (fx.all fun f => f.ok K) = true) (i : Nat) {f : Fx} (h : fx[i]? = some f) : f.ok K = true := List.all_eq_true.mp c f (List.mem_of_getElem? h)
/-- the method's def in a class's text -/
def inSt (st : Stmt) (j : Nat) : Stmt := match st with
  | .ClassDef _ _ _ body _ _ _ _ _ _ _ => body.getD j (.Pass ⟨0, 0, 0, 0⟩)
  | _ => .Pass ⟨0, 0, 0, 0⟩
end Iv
end

section
set_option Elab.async false
set_option linter.all false
set_option maxRecDepth 100000
set_option maxHeartbeats 4000000
namespace Lw
open PySem PySem.Spec PyProof.Rows L2 Iv
def topS (i : Nat) : Stmt := PySem.Challenge.pw_enoughcame_k36_known_reports.main.body.getD i (.Pass ⟨0, 0, 0, 0⟩)
abbrev caK (K : PySem.W.Frag) (x : Str) : Value := .ref (He.ga K x)
structure Txt (K : PySem.W.Frag) (mg : Str → Option Value) : Prop where
  m_isinstance : mg "isinstance" = none
  m_int : mg "int" = none
  m_bool : mg "bool" = none
  m_len : mg "len" = none
  m_range : mg "range" = none
  m_min : mg "min" = none
  m_tuple : mg "tuple" = none
  m_enumerate : mg "enumerate" = none
  m_all : mg "all" = none
  m_zip : mg "zip" = none
  m_any : mg "any" = none
  m_max : mg "max" = none
  m_abs : mg "abs" = none
  m_list : mg "list" = none
  m_str : mg "str" = none
  x_Contradiction : PySem.Ivx.XcT K mg "Contradiction" "evidence" XB.ve.bm (He.ga K "Contradiction") (He.ma K (He.ga K "Contradiction") "__init__")
  a_evidence : AttOk K mg "evidence" ["Contradiction"]
  e_0 : ∀ nm ∈ (["Contradiction"] : List Str), PySem.W.exmAny K (.ref (He.ga K nm)) [.ref (He.ga K "Contradiction")] = some (decide (nm ∈ (["Contradiction"] : List Str)))
structure AllCO (P : Program) (w : World) (K : PySem.W.Frag) (mg : Str → Option Value) (base : Heap) (k : Nat) (cl : Iv.Orc) (ca : Str → Value) : Prop where
  c_is_number : Iv.CO P w K mg base k cl ca "is_number" []
  c_is_index : Iv.CO P w K mg base k cl ca "is_index" []
  c_count_in : Iv.CO P w K mg base k cl ca "count_in" []
  c_bounds_of : Iv.CO P w K mg base k cl ca "bounds_of" []
  c_evidence : Iv.CO P w K mg base k cl ca "evidence" []
  c_shows_evidence : Iv.CO P w K mg base k cl ca "shows_evidence" []
  c_agree : Iv.CO P w K mg base k cl ca "agree" []
  c_verdict : Iv.CO P w K mg base k cl ca "verdict" []
  c_is_evidence : Iv.CO P w K mg base k cl ca "is_evidence" []
  c_bounds_for : Iv.CO P w K mg base k cl ca "bounds_for" []
  c_is_within : Iv.CO P w K mg base k cl ca "is_within" []
  c_count_for : Iv.CO P w K mg base k cl ca "count_for" []
  c__law_cell_at : Iv.CO P w K mg base k cl ca "_law_cell_at" []
  c__law_box : Iv.CO P w K mg base k cl ca "_law_box" []
  c__law_take : Iv.CO P w K mg base k cl ca "_law_take" []
  c__law_of : Iv.CO P w K mg base k cl ca "_law_of" []
  c__law_same : Iv.CO P w K mg base k cl ca "_law_same" []
  c__law_refused : Iv.CO P w K mg base k cl ca "_law_refused" []
  c__law_three_right : Iv.CO P w K mg base k cl ca "_law_three_right" []
  c__law_refusals_right : Iv.CO P w K mg base k cl ca "_law_refusals_right" []
  c__law_right : Iv.CO P w K mg base k cl ca "_law_right" []
  c_law : Iv.CO P w K mg base k cl ca "law" []
abbrev s_is_number : Stmt := topS 3
theorem sc_is_number : FnScope ["thing"] ["thing"] (defScope s_is_number) := ⟨rfl, rfl, rfl, by decide +kernel, rfl, by decide +kernel, by decide +kernel⟩
def b_is_number : Iv.C := .ret (.and (.isi (.var 0) [.int]) (.not (.isi (.var 0) [.bool])))
theorem d_is_number {P : Program} {w : World} {K : PySem.W.Frag} {mg : Str → Option Value} {base : Heap} {Γ : Str → Option Iv.Fn} {k : Nat} {f : Addr} (T : Txt K mg) (C : AllCO P w K mg base k (Iv.runF Γ k) (caK K)) (cdv : Value) (A : Around) (outer : List Env) (s : Shared) (H : Hp) (E : XK) (hr : Room k (A.deeper (envOfC "is_number" (defScope s_is_number) s.heap.objs.size f cdv))) (hgd : A.guards = some []) :
    Iv.SBx ⟨Iv.runF Γ k, fun cls d _ H => E cls d H, caK K⟩ (cxOf (L2.CX P w) P w K mg base ["thing"] "is_number" (defScope s_is_number) f cdv A outer s H E) [] (defBody s_is_number) b_is_number := by
  have nd := sc_is_number.nd
  have hu := hr.units
  have hv := units65 hr
  have hg : (A.deeper (envOfC "is_number" (defScope s_is_number) s.heap.objs.size f cdv)).guards = some [] := hgd
  have tk : Takes (cxOf (L2.CX P w) P w K mg base ["thing"] "is_number" (defScope s_is_number) f cdv A outer s H E) (fun cls d _ H => E cls d H) := takes_of rfl rfl rfl rfl
  have po : PassesOwn (model P w) (A.deeper (envOfC "is_number" (defScope s_is_number) s.heap.objs.size f cdv)) (envOfC "is_number" (defScope s_is_number) s.heap.objs.size f cdv) (cxOf (L2.CX P w) P w K mg base ["thing"] "is_number" (defScope s_is_number) f cdv A outer s H E).xe := passes_of (X := (cxOf (L2.CX P w) P w K mg base ["thing"] "is_number" (defScope s_is_number) f cdv A outer s H E)) rfl
  exact ⟨sb_one (ss_ret (sx_and (sx_isi1 (b_isi (by rfl) T.m_isinstance) (t_int (by rfl) T.m_int) (sx_var (pv 0)) rfl) (sx_one (sx_not (sx_isi1 (b_isi (by rfl) T.m_isinstance) (t_bool (by rfl) T.m_bool) (sx_var (pv 0)) rfl)).se)) rfl)⟩
def f_is_number : Iv.Fn := ⟨["thing"], ["thing"], [], b_is_number⟩
abbrev s_is_index : Stmt := topS 4
theorem sc_is_index : FnScope ["thing", "values"] ["thing", "values"] (defScope s_is_index) := ⟨rfl, rfl, rfl, by decide +kernel, rfl, by decide +kernel, by decide +kernel⟩
def b_is_index : Iv.C := .ret (.and (.call "is_number" (.cons (.var 0) (.nil))) (.ch .le .lt (.c (.int 0)) (.var 0) (.b1 .len (.var 1))))
theorem d_is_index {P : Program} {w : World} {K : PySem.W.Frag} {mg : Str → Option Value} {base : Heap} {Γ : Str → Option Iv.Fn} {k : Nat} {f : Addr} (T : Txt K mg) (C : AllCO P w K mg base k (Iv.runF Γ k) (caK K)) (cdv : Value) (A : Around) (outer : List Env) (s : Shared) (H : Hp) (E : XK) (hr : Room k (A.deeper (envOfC "is_index" (defScope s_is_index) s.heap.objs.size f cdv))) (hgd : A.guards = some []) :
    Iv.SBx ⟨Iv.runF Γ k, fun cls d _ H => E cls d H, caK K⟩ (cxOf (L2.CX P w) P w K mg base ["thing", "values"] "is_index" (defScope s_is_index) f cdv A outer s H E) [] (defBody s_is_index) b_is_index := by
  have nd := sc_is_index.nd
  have hu := hr.units
  have hv := units65 hr
  have hg : (A.deeper (envOfC "is_index" (defScope s_is_index) s.heap.objs.size f cdv)).guards = some [] := hgd
  have tk : Takes (cxOf (L2.CX P w) P w K mg base ["thing", "values"] "is_index" (defScope s_is_index) f cdv A outer s H E) (fun cls d _ H => E cls d H) := takes_of rfl rfl rfl rfl
  have po : PassesOwn (model P w) (A.deeper (envOfC "is_index" (defScope s_is_index) s.heap.objs.size f cdv)) (envOfC "is_index" (defScope s_is_index) s.heap.objs.size f cdv) (cxOf (L2.CX P w) P w K mg base ["thing", "values"] "is_index" (defScope s_is_index) f cdv A outer s H E).xe := passes_of (X := (cxOf (L2.CX P w) P w K mg base ["thing", "values"] "is_index" (defScope s_is_index) f cdv A outer s H E)) rfl
  exact ⟨sb_one (ss_ret (sx_and (sx_call ((C.c_is_number).call hr hg tk) (by rfl) (by decide) (sa_cons (sx_var (pv 0)) (sa_nil) rfl rfl) (by rfl) (by rfl)) (sx_one (sx_ch (sx_int) (sx_var (pv 0)) (sx_b1 (k := .len) (b_len (by rfl) T.m_len) (sx_var (pv 1)) rfl hg hu rfl) rfl rfl (by with_unfolding_all rfl)).se)) rfl)⟩
def f_is_index : Iv.Fn := ⟨["thing", "values"], ["thing", "values"], [], b_is_index⟩
abbrev s_count_in : Stmt := topS 5
theorem sc_count_in : FnScope ["friends", "there", "friend"] ["friends", "there"] (defScope s_count_in) := ⟨rfl, rfl, rfl, by decide +kernel, rfl, by decide +kernel, by decide +kernel⟩
def b_count_in : Iv.C := .ret (.b1 .len (.comp .seq (.cons (.var 0) .nil) (.name 2) (.cm .in_ (.var 2) (.var 1)) (.var 2)))
theorem d_count_in {P : Program} {w : World} {K : PySem.W.Frag} {mg : Str → Option Value} {base : Heap} {Γ : Str → Option Iv.Fn} {k : Nat} {f : Addr} (T : Txt K mg) (C : AllCO P w K mg base k (Iv.runF Γ k) (caK K)) (cdv : Value) (A : Around) (outer : List Env) (s : Shared) (H : Hp) (E : XK) (hr : Room k (A.deeper (envOfC "count_in" (defScope s_count_in) s.heap.objs.size f cdv))) (hgd : A.guards = some []) :
    Iv.SBx ⟨Iv.runF Γ k, fun cls d _ H => E cls d H, caK K⟩ (cxOf (L2.CX P w) P w K mg base ["friends", "there", "friend"] "count_in" (defScope s_count_in) f cdv A outer s H E) [] (defBody s_count_in) b_count_in := by
  have nd := sc_count_in.nd
  have hu := hr.units
  have hv := units65 hr
  have hg : (A.deeper (envOfC "count_in" (defScope s_count_in) s.heap.objs.size f cdv)).guards = some [] := hgd
  have tk : Takes (cxOf (L2.CX P w) P w K mg base ["friends", "there", "friend"] "count_in" (defScope s_count_in) f cdv A outer s H E) (fun cls d _ H => E cls d H) := takes_of rfl rfl rfl rfl
  have po : PassesOwn (model P w) (A.deeper (envOfC "count_in" (defScope s_count_in) s.heap.objs.size f cdv)) (envOfC "count_in" (defScope s_count_in) s.heap.objs.size f cdv) (cxOf (L2.CX P w) P w K mg base ["friends", "there", "friend"] "count_in" (defScope s_count_in) f cdv A outer s H E).xe := passes_of (X := (cxOf (L2.CX P w) P w K mg base ["friends", "there", "friend"] "count_in" (defScope s_count_in) f cdv A outer s H E)) rfl
  exact ⟨sb_one (ss_ret (sx_b1 (k := .len) (b_len (by rfl) T.m_len) (sx_comp (own := [("friend", 2)]) rfl nd (by exact blkOk_by (N := ["friends", "there", "friend"]) (sc := (defScope s_count_in)) (by decide +kernel)) rfl (si_seq (sx_var (pv 0)) rfl) (fun _ _ _ _ _ => sg_name nd rfl (by first | exact Or.inl rfl | exact Or.inr rfl) (by first | exact Or.inl rfl | exact Or.inr rfl)) (fun _ _ _ _ _ => sts_one (st_cm (sx_var (pv 2)) (sx_var (pv 1)) rfl hv rfl)) (fun _ _ _ _ _ => sx_var (pv 2)) (fun _ => rfl)) rfl hg hu rfl) rfl)⟩
def f_count_in : Iv.Fn := ⟨["friends", "there"], ["friends", "there", "friend"], [], b_count_in⟩
abbrev s_bounds_of : Stmt := topS 7
theorem sc_bounds_of : FnScope ["friends", "reports", "least_evidence", "person"] ["friends", "reports"] (defScope s_bounds_of) := ⟨rfl, rfl, rfl, by decide +kernel, rfl, by decide +kernel, by decide +kernel⟩
def b_bounds_of : Iv.C := .seq (.set 2 (.call "evidence" (.cons (.var 0) (.cons (.var 1) (.nil))))) (.seq (.cond (.cm .isnot (.var 2) (.c .none)) (.raise "Contradiction" "evidence" (.var 2)) (.skip)) (.ret (.comp .rng1 (.cons (.b1 .len (.var 0)) (.nil)) (.name 3) (.c (.bool true)) (.call "bounds_for" (.cons (.var 0) (.cons (.var 1) (.cons (.var 3) (.nil))))))))
theorem d_bounds_of {P : Program} {w : World} {K : PySem.W.Frag} {mg : Str → Option Value} {base : Heap} {Γ : Str → Option Iv.Fn} {k : Nat} {f : Addr} (T : Txt K mg) (C : AllCO P w K mg base k (Iv.runF Γ k) (caK K)) (cdv : Value) (A : Around) (outer : List Env) (s : Shared) (H : Hp) (E : XK) (hr : Room k (A.deeper (envOfC "bounds_of" (defScope s_bounds_of) s.heap.objs.size f cdv))) (hgd : A.guards = some []) :
    Iv.SBx ⟨Iv.runF Γ k, fun cls d _ H => E cls d H, caK K⟩ (cxOf (L2.CX P w) P w K mg base ["friends", "reports", "least_evidence", "person"] "bounds_of" (defScope s_bounds_of) f cdv A outer s H E) [] (defBody s_bounds_of) b_bounds_of := by
  have nd := sc_bounds_of.nd
  have hu := hr.units
  have hv := units65 hr
  have hg : (A.deeper (envOfC "bounds_of" (defScope s_bounds_of) s.heap.objs.size f cdv)).guards = some [] := hgd
  have tk : Takes (cxOf (L2.CX P w) P w K mg base ["friends", "reports", "least_evidence", "person"] "bounds_of" (defScope s_bounds_of) f cdv A outer s H E) (fun cls d _ H => E cls d H) := takes_of rfl rfl rfl rfl
  have po : PassesOwn (model P w) (A.deeper (envOfC "bounds_of" (defScope s_bounds_of) s.heap.objs.size f cdv)) (envOfC "bounds_of" (defScope s_bounds_of) s.heap.objs.size f cdv) (cxOf (L2.CX P w) P w K mg base ["friends", "reports", "least_evidence", "person"] "bounds_of" (defScope s_bounds_of) f cdv A outer s H E).xe := passes_of (X := (cxOf (L2.CX P w) P w K mg base ["friends", "reports", "least_evidence", "person"] "bounds_of" (defScope s_bounds_of) f cdv A outer s H E)) rfl
  exact ⟨sb_cons (@ss_set _ _ _ _ _ 2 (WE _ _) (ps_set (i := 2) nd rfl (by first | exact Or.inl rfl | exact Or.inr rfl) pe_we rfl) (sx_call ((C.c_evidence).call hr hg tk) (by rfl) (by decide) (sa_cons (sx_var (pv 0)) (sa_cons (sx_var (pv 1)) (sa_nil) rfl rfl) rfl rfl) (by rfl) (by rfl)).se) (sb_cons (ss_cond (st_cm (sx_var (pv 2)) (sx_none) rfl hv rfl) (sb_one (ss_raise T.x_Contradiction rfl rfl tk hr (sx_var (pv 2)) (by rfl) (by decide) rfl rfl)) (sb_nil)) (sb_one (ss_ret (sx_comp (own := [("person", 3)]) rfl nd (by exact blkOk_by (N := ["friends", "reports", "least_evidence", "person"]) (sc := (defScope s_bounds_of)) (by decide +kernel)) rfl (si_rng1 (by rfl) T.m_range (sa_cons (sx_b1 (k := .len) (b_len (by rfl) T.m_len) (sx_var (pv 0)) rfl hg hu rfl) (sa_nil) rfl rfl) rfl) (fun _ _ _ _ _ => sg_name nd rfl (by first | exact Or.inl rfl | exact Or.inr rfl) (by first | exact Or.inl rfl | exact Or.inr rfl)) (fun _ _ _ _ _ => sts_nil) (fun _ _ _ _ _ => sx_call ((C.c_bounds_for).call hr hg takes0) (by rfl) (by decide) (sa_cons (sx_var (pv 0)) (sa_cons (sx_var (pv 1)) (sa_cons (sx_var (pv 3)) (sa_nil) rfl rfl) rfl rfl) rfl rfl) (by rfl) (by rfl)) (fun _ => rfl)) rfl)))⟩
def f_bounds_of : Iv.Fn := ⟨["friends", "reports"], ["friends", "reports", "least_evidence", "person"], [], b_bounds_of⟩
abbrev s_evidence : Stmt := topS 8
theorem sc_evidence : FnScope ["friends", "reports", "many", "found", "person", "i", "j"] ["friends", "reports"] (defScope s_evidence) := ⟨rfl, rfl, rfl, by decide +kernel, rfl, by decide +kernel, by decide +kernel⟩
def b_evidence : Iv.C := .seq (.set 2 (.b1 .len (.var 1))) (.seq (.set 3 (.comp3 .rng1 (.cons (.b1 .len (.var 0)) (.nil)) (.name 4) (.c (.bool true)) .rng1 (.cons (.var 2) (.nil)) (.name 5) (.c (.bool true)) .rng1 (.cons (.var 2) (.nil)) (.name 6) (.call "is_evidence" (.cons (.var 0) (.cons (.var 1) (.cons (.var 4) (.cons (.var 5) (.cons (.var 6) (.nil))))))) (.tup (.cons (.var 4) (.cons (.var 5) (.cons (.var 6) (.nil))))))) (.ret (.mmd false (.var 3) (.c .none))))
theorem d_evidence {P : Program} {w : World} {K : PySem.W.Frag} {mg : Str → Option Value} {base : Heap} {Γ : Str → Option Iv.Fn} {k : Nat} {f : Addr} (T : Txt K mg) (C : AllCO P w K mg base k (Iv.runF Γ k) (caK K)) (cdv : Value) (A : Around) (outer : List Env) (s : Shared) (H : Hp) (E : XK) (hr : Room k (A.deeper (envOfC "evidence" (defScope s_evidence) s.heap.objs.size f cdv))) (hgd : A.guards = some []) :
    Iv.SBx ⟨Iv.runF Γ k, fun cls d _ H => E cls d H, caK K⟩ (cxOf (L2.CX P w) P w K mg base ["friends", "reports", "many", "found", "person", "i", "j"] "evidence" (defScope s_evidence) f cdv A outer s H E) [] (defBody s_evidence) b_evidence := by
  have nd := sc_evidence.nd
  have hu := hr.units
  have hv := units65 hr
  have hg : (A.deeper (envOfC "evidence" (defScope s_evidence) s.heap.objs.size f cdv)).guards = some [] := hgd
  have tk : Takes (cxOf (L2.CX P w) P w K mg base ["friends", "reports", "many", "found", "person", "i", "j"] "evidence" (defScope s_evidence) f cdv A outer s H E) (fun cls d _ H => E cls d H) := takes_of rfl rfl rfl rfl
  have po : PassesOwn (model P w) (A.deeper (envOfC "evidence" (defScope s_evidence) s.heap.objs.size f cdv)) (envOfC "evidence" (defScope s_evidence) s.heap.objs.size f cdv) (cxOf (L2.CX P w) P w K mg base ["friends", "reports", "many", "found", "person", "i", "j"] "evidence" (defScope s_evidence) f cdv A outer s H E).xe := passes_of (X := (cxOf (L2.CX P w) P w K mg base ["friends", "reports", "many", "found", "person", "i", "j"] "evidence" (defScope s_evidence) f cdv A outer s H E)) rfl
  exact ⟨sb_cons (@ss_set _ _ _ _ _ 2 (WE _ _) (ps_set (i := 2) nd rfl (by first | exact Or.inl rfl | exact Or.inr rfl) pe_we rfl) (sx_b1 (k := .len) (b_len (by rfl) T.m_len) (sx_var (pv 1)) rfl hg hu rfl).se) (sb_cons (ss_setLc3 (i := 3) (own := [("person", 4), ("i", 5), ("j", 6)]) rfl nd rfl rfl (sw_true rfl rfl rfl (by decide +kernel)) (by exact blkOk_by (N := ["friends", "reports", "many", "found", "person", "i", "j"]) (sc := (defScope s_evidence)) (by decide +kernel)) rfl ⟨(si_rng1 (by rfl) T.m_range (sa_cons (sx_b1 (k := .len) (b_len (by rfl) T.m_len) (sx_var (pv 0)) rfl hg hu rfl) (sa_nil) rfl rfl) rfl), (fun _ _ _ _ _ => sg_name nd rfl (by first | exact Or.inl rfl | exact Or.inr rfl) (by first | exact Or.inl rfl | exact Or.inr rfl)), (fun _ _ _ _ _ => sts_nil), (fun _ _ _ _ _ => si_rng1 (by rfl) T.m_range (sa_cons (sx_var (pv 2)) (sa_nil) rfl rfl) rfl), (fun _ _ _ _ _ => sg_name nd rfl (by first | exact Or.inl rfl | exact Or.inr rfl) (by first | exact Or.inl rfl | exact Or.inr rfl)), (fun _ _ _ _ _ => sts_nil), (fun _ _ _ _ _ => si_rng1 (by rfl) T.m_range (sa_cons (sx_var (pv 2)) (sa_nil) rfl rfl) rfl), (fun _ _ _ _ _ => sg_name nd rfl (by first | exact Or.inl rfl | exact Or.inr rfl) (by first | exact Or.inl rfl | exact Or.inr rfl)), (fun _ _ _ _ _ => sts_one (st_val (sx_call ((C.c_is_evidence).call hr hg takes0) (by rfl) (by decide) (sa_cons (sx_var (pv 0)) (sa_cons (sx_var (pv 1)) (sa_cons (sx_var (pv 4)) (sa_cons (sx_var (pv 5)) (sa_cons (sx_var (pv 6)) (sa_nil) rfl rfl) rfl rfl) rfl rfl) rfl rfl) rfl rfl) (by rfl) (by rfl)) (by intro _; rfl))), (fun _ _ _ _ _ => sx_tup (sa_cons (sx_var (pv 4)) (sa_cons (sx_var (pv 5)) (sa_cons (sx_var (pv 6)) (sa_nil) rfl rfl) rfl rfl) rfl rfl)), fun _ => rfl, fun _ _ => rfl, fun _ _ => rfl⟩) (sb_one (ss_ret (sx_mmd (b_min (by rfl) T.m_min) rfl (sx_var (pv 3)) (sx_none) rfl hv rfl (by rfl) (by rfl) (by rfl)) rfl)))⟩
def f_evidence : Iv.Fn := ⟨["friends", "reports"], ["friends", "reports", "many", "found", "person", "i", "j"], [], b_evidence⟩
abbrev s_shows_evidence : Stmt := topS 9
theorem sc_shows_evidence : FnScope ["friends", "reports", "thing", "person", "i", "j"] ["friends", "reports", "thing"] (defScope s_shows_evidence) := ⟨rfl, rfl, rfl, by decide +kernel, rfl, by decide +kernel, by decide +kernel⟩
def b_shows_evidence : Iv.C := .seq (.cond (.or (.not (.isi (.var 2) [.tuple])) (.cm .ne (.b1 .len (.var 2)) (.c (.int 3)))) (.ret (.c (.bool false))) (.skip)) (.seq (.unp (.cons (.name 3) (.cons (.name 4) (.cons (.name 5) .nil))) (.var 2)) (.seq (.cond (.or (.not (.call "is_index" (.cons (.var 3) (.cons (.var 0) (.nil))))) (.or (.not (.call "is_index" (.cons (.var 4) (.cons (.var 1) (.nil))))) (.not (.call "is_index" (.cons (.var 5) (.cons (.var 1) (.nil))))))) (.ret (.c (.bool false))) (.skip)) (.ret (.call "is_evidence" (.cons (.var 0) (.cons (.var 1) (.cons (.var 3) (.cons (.var 4) (.cons (.var 5) (.nil))))))))))
theorem d_shows_evidence {P : Program} {w : World} {K : PySem.W.Frag} {mg : Str → Option Value} {base : Heap} {Γ : Str → Option Iv.Fn} {k : Nat} {f : Addr} (T : Txt K mg) (C : AllCO P w K mg base k (Iv.runF Γ k) (caK K)) (cdv : Value) (A : Around) (outer : List Env) (s : Shared) (H : Hp) (E : XK) (hr : Room k (A.deeper (envOfC "shows_evidence" (defScope s_shows_evidence) s.heap.objs.size f cdv))) (hgd : A.guards = some []) :
    Iv.SBx ⟨Iv.runF Γ k, fun cls d _ H => E cls d H, caK K⟩ (cxOf (L2.CX P w) P w K mg base ["friends", "reports", "thing", "person", "i", "j"] "shows_evidence" (defScope s_shows_evidence) f cdv A outer s H E) [] (defBody s_shows_evidence) b_shows_evidence := by
  have nd := sc_shows_evidence.nd
  have hu := hr.units
  have hv := units65 hr
  have hg : (A.deeper (envOfC "shows_evidence" (defScope s_shows_evidence) s.heap.objs.size f cdv)).guards = some [] := hgd
  have tk : Takes (cxOf (L2.CX P w) P w K mg base ["friends", "reports", "thing", "person", "i", "j"] "shows_evidence" (defScope s_shows_evidence) f cdv A outer s H E) (fun cls d _ H => E cls d H) := takes_of rfl rfl rfl rfl
  have po : PassesOwn (model P w) (A.deeper (envOfC "shows_evidence" (defScope s_shows_evidence) s.heap.objs.size f cdv)) (envOfC "shows_evidence" (defScope s_shows_evidence) s.heap.objs.size f cdv) (cxOf (L2.CX P w) P w K mg base ["friends", "reports", "thing", "person", "i", "j"] "shows_evidence" (defScope s_shows_evidence) f cdv A outer s H E).xe := passes_of (X := (cxOf (L2.CX P w) P w K mg base ["friends", "reports", "thing", "person", "i", "j"] "shows_evidence" (defScope s_shows_evidence) f cdv A outer s H E)) rfl
  exact ⟨sb_cons (ss_cond ((su_or (su_not (st_val (sx_isi1 (b_isi (by rfl) T.m_isinstance) (t_tuple (by rfl) T.m_tuple) (sx_var (pv 2)) rfl) (by intro _; rfl))) (su_or1 (st_cm (sx_b1 (k := .len) (b_len (by rfl) T.m_len) (sx_var (pv 2)) rfl hg hu rfl) (sx_int) rfl hv rfl))).st) (sb_one (ss_ret (sx_bool) rfl)) (sb_nil)) (sb_cons (ss_unp (ps_asg pe_we pg_wg) (sx_var (pv 2)) (sg_tup rfl (sgs_cons (sg_name nd rfl (by first | exact Or.inl rfl | exact Or.inr rfl) (by first | exact Or.inl rfl | exact Or.inr rfl)) (sgs_cons (sg_name nd rfl (by first | exact Or.inl rfl | exact Or.inr rfl) (by first | exact Or.inl rfl | exact Or.inr rfl)) (sgs_one (sg_name nd rfl (by first | exact Or.inl rfl | exact Or.inr rfl) (by first | exact Or.inl rfl | exact Or.inr rfl)) rfl) (by intro z; cases z) rfl) (by intro z; cases z) rfl) (by intro i z; cases z) rfl rfl)) (sb_cons (ss_cond ((su_or (su_not (st_val (sx_call ((C.c_is_index).call hr hg tk) (by rfl) (by decide) (sa_cons (sx_var (pv 3)) (sa_cons (sx_var (pv 0)) (sa_nil) rfl rfl) rfl rfl) (by rfl) (by rfl)) (by intro _; rfl))) (su_or (su_not (st_val (sx_call ((C.c_is_index).call hr hg tk) (by rfl) (by decide) (sa_cons (sx_var (pv 4)) (sa_cons (sx_var (pv 1)) (sa_nil) rfl rfl) rfl rfl) (by rfl) (by rfl)) (by intro _; rfl))) (su_or1 (su_not (st_val (sx_call ((C.c_is_index).call hr hg tk) (by rfl) (by decide) (sa_cons (sx_var (pv 5)) (sa_cons (sx_var (pv 1)) (sa_nil) rfl rfl) rfl rfl) (by rfl) (by rfl)) (by intro _; rfl)))))).st) (sb_one (ss_ret (sx_bool) rfl)) (sb_nil)) (sb_one (ss_ret (sx_call ((C.c_is_evidence).call hr hg tk) (by rfl) (by decide) (sa_cons (sx_var (pv 0)) (sa_cons (sx_var (pv 1)) (sa_cons (sx_var (pv 3)) (sa_cons (sx_var (pv 4)) (sa_cons (sx_var (pv 5)) (sa_nil) rfl rfl) rfl rfl) rfl rfl) rfl rfl) rfl rfl) (by rfl) (by rfl)) rfl))))⟩
def f_shows_evidence : Iv.Fn := ⟨["friends", "reports", "thing"], ["friends", "reports", "thing", "person", "i", "j"], [], b_shows_evidence⟩
abbrev s_agree : Stmt := topS 10
theorem sc_agree : FnScope ["friends", "reports", "thing", "person", "need"] ["friends", "reports", "thing"] (defScope s_agree) := ⟨rfl, rfl, rfl, by decide +kernel, rfl, by decide +kernel, by decide +kernel⟩
def b_agree : Iv.C := .seq (.cond (.or (.not (.isi (.var 2) [.tuple])) (.cm .ne (.b1 .len (.var 2)) (.b1 .len (.var 0)))) (.ret (.c (.bool false))) (.skip)) (.ret (.b1 .all (.comp .enum (.cons (.var 2) .nil) (.cons (.name 3) (.cons (.name 4) .nil)) (.c (.bool true)) (.and (.call "is_number" (.cons (.var 4) (.nil))) (.call "is_within" (.cons (.var 4) (.cons (.call "bounds_for" (.cons (.var 0) (.cons (.var 1) (.cons (.var 3) (.nil))))) (.nil))))))))
theorem d_agree {P : Program} {w : World} {K : PySem.W.Frag} {mg : Str → Option Value} {base : Heap} {Γ : Str → Option Iv.Fn} {k : Nat} {f : Addr} (T : Txt K mg) (C : AllCO P w K mg base k (Iv.runF Γ k) (caK K)) (cdv : Value) (A : Around) (outer : List Env) (s : Shared) (H : Hp) (E : XK) (hr : Room k (A.deeper (envOfC "agree" (defScope s_agree) s.heap.objs.size f cdv))) (hgd : A.guards = some []) :
    Iv.SBx ⟨Iv.runF Γ k, fun cls d _ H => E cls d H, caK K⟩ (cxOf (L2.CX P w) P w K mg base ["friends", "reports", "thing", "person", "need"] "agree" (defScope s_agree) f cdv A outer s H E) [] (defBody s_agree) b_agree := by
  have nd := sc_agree.nd
  have hu := hr.units
  have hv := units65 hr
  have hg : (A.deeper (envOfC "agree" (defScope s_agree) s.heap.objs.size f cdv)).guards = some [] := hgd
  have tk : Takes (cxOf (L2.CX P w) P w K mg base ["friends", "reports", "thing", "person", "need"] "agree" (defScope s_agree) f cdv A outer s H E) (fun cls d _ H => E cls d H) := takes_of rfl rfl rfl rfl
  have po : PassesOwn (model P w) (A.deeper (envOfC "agree" (defScope s_agree) s.heap.objs.size f cdv)) (envOfC "agree" (defScope s_agree) s.heap.objs.size f cdv) (cxOf (L2.CX P w) P w K mg base ["friends", "reports", "thing", "person", "need"] "agree" (defScope s_agree) f cdv A outer s H E).xe := passes_of (X := (cxOf (L2.CX P w) P w K mg base ["friends", "reports", "thing", "person", "need"] "agree" (defScope s_agree) f cdv A outer s H E)) rfl
  exact ⟨sb_cons (ss_cond ((su_or (su_not (st_val (sx_isi1 (b_isi (by rfl) T.m_isinstance) (t_tuple (by rfl) T.m_tuple) (sx_var (pv 2)) rfl) (by intro _; rfl))) (su_or1 (st_cm (sx_b1 (k := .len) (b_len (by rfl) T.m_len) (sx_var (pv 2)) rfl hg hu rfl) (sx_b1 (k := .len) (b_len (by rfl) T.m_len) (sx_var (pv 0)) rfl hg hu rfl) rfl hv rfl))).st) (sb_one (ss_ret (sx_bool) rfl)) (sb_nil)) (sb_one (ss_ret (sx_b1 (k := .all) (b_all (by rfl) T.m_all) (sx_comp (own := [("person", 3), ("need", 4)]) rfl nd (by exact blkOk_by (N := ["friends", "reports", "thing", "person", "need"]) (sc := (defScope s_agree)) (by decide +kernel)) rfl (si_enum (by rfl) T.m_enumerate (sx_var (pv 2)) rfl rfl) (fun _ _ _ _ _ => sg_tup rfl (sgs_cons (sg_name nd rfl (by first | exact Or.inl rfl | exact Or.inr rfl) (by first | exact Or.inl rfl | exact Or.inr rfl)) (sgs_one (sg_name nd rfl (by first | exact Or.inl rfl | exact Or.inr rfl) (by first | exact Or.inl rfl | exact Or.inr rfl)) rfl) (by intro z; cases z) rfl) (by intro i z; cases z) rfl rfl) (fun _ _ _ _ _ => sts_nil) (fun _ _ _ _ _ => sx_and (sx_call ((C.c_is_number).call hr hg takes0) (by rfl) (by decide) (sa_cons (sx_var (pv 4)) (sa_nil) rfl rfl) (by rfl) (by rfl)) (sx_one (sx_call ((C.c_is_within).call hr hg takes0) (by rfl) (by decide) (sa_cons (sx_var (pv 4)) (sa_cons (sx_call ((C.c_bounds_for).call hr hg takes0) (by rfl) (by decide) (sa_cons (sx_var (pv 0)) (sa_cons (sx_var (pv 1)) (sa_cons (sx_var (pv 3)) (sa_nil) rfl rfl) rfl rfl) rfl rfl) (by rfl) (by rfl)) (sa_nil) rfl rfl) rfl rfl) (by rfl) (by rfl)).se)) (fun _ => rfl)) rfl hg hu rfl) rfl))⟩
def f_agree : Iv.Fn := ⟨["friends", "reports", "thing"], ["friends", "reports", "thing", "person", "need"], [], b_agree⟩
abbrev s_verdict : Stmt := topS 11
theorem sc_verdict : FnScope ["friends", "reports", "row", "bounds", "counts", "person", "count", "least", "most"] ["friends", "reports", "row"] (defScope s_verdict) := ⟨rfl, rfl, rfl, by decide +kernel, rfl, by decide +kernel, by decide +kernel⟩
def b_verdict : Iv.C := .seq (.set 3 (.call "bounds_of" (.cons (.var 0) (.cons (.var 1) (.nil))))) (.seq (.set 4 (.comp .rng1 (.cons (.b1 .len (.var 0)) (.nil)) (.name 5) (.c (.bool true)) (.call "count_for" (.cons (.var 0) (.cons (.var 2) (.cons (.var 5) (.nil))))))) (.seq (.cond (.b1 .any (.comp .zip (.cons (.var 3) (.cons (.var 4) (.nil))) (.cons (.cons (.name 7) (.cons (.name 8) .nil)) (.cons (.name 6) .nil)) (.c (.bool true)) (.cm .gt (.var 7) (.var 6)))) (.ret (.c (.str "no"))) (.skip)) (.seq (.cond (.b1 .all (.comp .zip (.cons (.var 3) (.cons (.var 4) (.nil))) (.cons (.cons (.name 7) (.cons (.name 8) .nil)) (.cons (.name 6) .nil)) (.c (.bool true)) (.and (.cm .isnot (.var 8) (.c .none)) (.cm .le (.var 8) (.var 6))))) (.ret (.c (.str "yes"))) (.skip)) (.ret (.c (.str "open"))))))
theorem d_verdict {P : Program} {w : World} {K : PySem.W.Frag} {mg : Str → Option Value} {base : Heap} {Γ : Str → Option Iv.Fn} {k : Nat} {f : Addr} (T : Txt K mg) (C : AllCO P w K mg base k (Iv.runF Γ k) (caK K)) (cdv : Value) (A : Around) (outer : List Env) (s : Shared) (H : Hp) (E : XK) (hr : Room k (A.deeper (envOfC "verdict" (defScope s_verdict) s.heap.objs.size f cdv))) (hgd : A.guards = some []) :
    Iv.SBx ⟨Iv.runF Γ k, fun cls d _ H => E cls d H, caK K⟩ (cxOf (L2.CX P w) P w K mg base ["friends", "reports", "row", "bounds", "counts", "person", "count", "least", "most"] "verdict" (defScope s_verdict) f cdv A outer s H E) [] (defBody s_verdict) b_verdict := by
  have nd := sc_verdict.nd
  have hu := hr.units
  have hv := units65 hr
  have hg : (A.deeper (envOfC "verdict" (defScope s_verdict) s.heap.objs.size f cdv)).guards = some [] := hgd
  have tk : Takes (cxOf (L2.CX P w) P w K mg base ["friends", "reports", "row", "bounds", "counts", "person", "count", "least", "most"] "verdict" (defScope s_verdict) f cdv A outer s H E) (fun cls d _ H => E cls d H) := takes_of rfl rfl rfl rfl
  have po : PassesOwn (model P w) (A.deeper (envOfC "verdict" (defScope s_verdict) s.heap.objs.size f cdv)) (envOfC "verdict" (defScope s_verdict) s.heap.objs.size f cdv) (cxOf (L2.CX P w) P w K mg base ["friends", "reports", "row", "bounds", "counts", "person", "count", "least", "most"] "verdict" (defScope s_verdict) f cdv A outer s H E).xe := passes_of (X := (cxOf (L2.CX P w) P w K mg base ["friends", "reports", "row", "bounds", "counts", "person", "count", "least", "most"] "verdict" (defScope s_verdict) f cdv A outer s H E)) rfl
  exact ⟨sb_cons (@ss_set _ _ _ _ _ 3 (WE _ _) (ps_set (i := 3) nd rfl (by first | exact Or.inl rfl | exact Or.inr rfl) pe_we rfl) (sx_call ((C.c_bounds_of).call hr hg tk) (by rfl) (by decide) (sa_cons (sx_var (pv 0)) (sa_cons (sx_var (pv 1)) (sa_nil) rfl rfl) rfl rfl) (by rfl) (by rfl)).se) (sb_cons (ss_setLc (i := 4) (own := [("person", 5)]) rfl nd rfl rfl (sw_true rfl rfl rfl (by decide +kernel)) (by exact blkOk_by (N := ["friends", "reports", "row", "bounds", "counts", "person", "count", "least", "most"]) (sc := (defScope s_verdict)) (by decide +kernel)) rfl (si_rng1 (by rfl) T.m_range (sa_cons (sx_b1 (k := .len) (b_len (by rfl) T.m_len) (sx_var (pv 0)) rfl hg hu rfl) (sa_nil) rfl rfl) rfl) (fun _ _ _ _ _ => sg_name nd rfl (by first | exact Or.inl rfl | exact Or.inr rfl) (by first | exact Or.inl rfl | exact Or.inr rfl)) (fun _ _ _ _ _ => sts_nil) (fun _ _ _ _ _ => sx_call ((C.c_count_for).call hr hg takes0) (by rfl) (by decide) (sa_cons (sx_var (pv 0)) (sa_cons (sx_var (pv 2)) (sa_cons (sx_var (pv 5)) (sa_nil) rfl rfl) rfl rfl) rfl rfl) (by rfl) (by rfl)) (fun _ => rfl)) (sb_cons (ss_cond (st_val (sx_b1 (k := .any) (b_any (by rfl) T.m_any) (sx_comp (own := [("least", 7), ("most", 8), ("count", 6)]) rfl nd (by exact blkOk_by (N := ["friends", "reports", "row", "bounds", "counts", "person", "count", "least", "most"]) (sc := (defScope s_verdict)) (by decide +kernel)) rfl (si_zip (by rfl) T.m_zip (sa_cons (sx_var (pv 3)) (sa_cons (sx_var (pv 4)) (sa_nil) rfl rfl) rfl rfl) rfl rfl) (fun _ _ _ _ _ => sg_tup rfl (sgs_cons (sg_tup rfl (sgs_cons (sg_name nd rfl (by first | exact Or.inl rfl | exact Or.inr rfl) (by first | exact Or.inl rfl | exact Or.inr rfl)) (sgs_one (sg_name nd rfl (by first | exact Or.inl rfl | exact Or.inr rfl) (by first | exact Or.inl rfl | exact Or.inr rfl)) rfl) (by intro z; cases z) rfl) (by intro i z; cases z) rfl rfl) (sgs_one (sg_name nd rfl (by first | exact Or.inl rfl | exact Or.inr rfl) (by first | exact Or.inl rfl | exact Or.inr rfl)) rfl) (by intro z; cases z) rfl) (by intro i z; cases z) rfl rfl) (fun _ _ _ _ _ => sts_nil) (fun _ _ _ _ _ => sx_cm (sx_var (pv 7)) (sx_var (pv 6)) rfl hv rfl) (fun _ => rfl)) rfl hg hu rfl) (by intro _; rfl)) (sb_one (ss_ret (sx_str) rfl)) (sb_nil)) (sb_cons (ss_cond (st_val (sx_b1 (k := .all) (b_all (by rfl) T.m_all) (sx_comp (own := [("least", 7), ("most", 8), ("count", 6)]) rfl nd (by exact blkOk_by (N := ["friends", "reports", "row", "bounds", "counts", "person", "count", "least", "most"]) (sc := (defScope s_verdict)) (by decide +kernel)) rfl (si_zip (by rfl) T.m_zip (sa_cons (sx_var (pv 3)) (sa_cons (sx_var (pv 4)) (sa_nil) rfl rfl) rfl rfl) rfl rfl) (fun _ _ _ _ _ => sg_tup rfl (sgs_cons (sg_tup rfl (sgs_cons (sg_name nd rfl (by first | exact Or.inl rfl | exact Or.inr rfl) (by first | exact Or.inl rfl | exact Or.inr rfl)) (sgs_one (sg_name nd rfl (by first | exact Or.inl rfl | exact Or.inr rfl) (by first | exact Or.inl rfl | exact Or.inr rfl)) rfl) (by intro z; cases z) rfl) (by intro i z; cases z) rfl rfl) (sgs_one (sg_name nd rfl (by first | exact Or.inl rfl | exact Or.inr rfl) (by first | exact Or.inl rfl | exact Or.inr rfl)) rfl) (by intro z; cases z) rfl) (by intro i z; cases z) rfl rfl) (fun _ _ _ _ _ => sts_nil) (fun _ _ _ _ _ => sx_and (sx_cm (sx_var (pv 8)) (sx_none) rfl hv rfl) (sx_one (sx_cm (sx_var (pv 8)) (sx_var (pv 6)) rfl hv rfl).se)) (fun _ => rfl)) rfl hg hu rfl) (by intro _; rfl)) (sb_one (ss_ret (sx_str) rfl)) (sb_nil)) (sb_one (ss_ret (sx_str) rfl)))))⟩
def f_verdict : Iv.Fn := ⟨["friends", "reports", "row"], ["friends", "reports", "row", "bounds", "counts", "person", "count", "least", "most"], [], b_verdict⟩
abbrev s_is_evidence : Stmt := topS 12
theorem sc_is_evidence : FnScope ["friends", "reports", "person", "i", "j", "row", "blocked"] ["friends", "reports", "person", "i", "j"] (defScope s_is_evidence) := ⟨rfl, rfl, rfl, by decide +kernel, rfl, by decide +kernel, by decide +kernel⟩
def b_is_evidence : Iv.C := .seq (.par2 5 6 (.ix (.ix (.var 1) (.var 3)) (.c (.int 0))) (.ix (.ix (.var 1) (.var 4)) (.c (.int 1)))) (.seq (.cond (.or (.cm .notin (.var 2) (.var 5)) (.cm .ne (.var 2) (.var 6))) (.ret (.c (.bool false))) (.skip)) (.ret (.cm .le (.call "count_for" (.cons (.var 0) (.cons (.var 5) (.cons (.var 2) (.nil))))) (.call "count_for" (.cons (.var 0) (.cons (.ix (.ix (.var 1) (.var 4)) (.c (.int 0))) (.cons (.var 2) (.nil))))))))
theorem d_is_evidence {P : Program} {w : World} {K : PySem.W.Frag} {mg : Str → Option Value} {base : Heap} {Γ : Str → Option Iv.Fn} {k : Nat} {f : Addr} (T : Txt K mg) (C : AllCO P w K mg base k (Iv.runF Γ k) (caK K)) (cdv : Value) (A : Around) (outer : List Env) (s : Shared) (H : Hp) (E : XK) (hr : Room k (A.deeper (envOfC "is_evidence" (defScope s_is_evidence) s.heap.objs.size f cdv))) (hgd : A.guards = some []) :
    Iv.SBx ⟨Iv.runF Γ k, fun cls d _ H => E cls d H, caK K⟩ (cxOf (L2.CX P w) P w K mg base ["friends", "reports", "person", "i", "j", "row", "blocked"] "is_evidence" (defScope s_is_evidence) f cdv A outer s H E) [] (defBody s_is_evidence) b_is_evidence := by
  have nd := sc_is_evidence.nd
  have hu := hr.units
  have hv := units65 hr
  have hg : (A.deeper (envOfC "is_evidence" (defScope s_is_evidence) s.heap.objs.size f cdv)).guards = some [] := hgd
  have tk : Takes (cxOf (L2.CX P w) P w K mg base ["friends", "reports", "person", "i", "j", "row", "blocked"] "is_evidence" (defScope s_is_evidence) f cdv A outer s H E) (fun cls d _ H => E cls d H) := takes_of rfl rfl rfl rfl
  have po : PassesOwn (model P w) (A.deeper (envOfC "is_evidence" (defScope s_is_evidence) s.heap.objs.size f cdv)) (envOfC "is_evidence" (defScope s_is_evidence) s.heap.objs.size f cdv) (cxOf (L2.CX P w) P w K mg base ["friends", "reports", "person", "i", "j", "row", "blocked"] "is_evidence" (defScope s_is_evidence) f cdv A outer s H E).xe := passes_of (X := (cxOf (L2.CX P w) P w K mg base ["friends", "reports", "person", "i", "j", "row", "blocked"] "is_evidence" (defScope s_is_evidence) f cdv A outer s H E)) rfl
  exact ⟨sb_cons (ss_par2 (ps_par rfl nd rfl rfl (by decide) rfl rfl (pa_cons pe_we (pa_cons pe_we pa_nil rfl) rfl) rfl) (by decide) (sx_ix (sx_ix (sx_var (pv 1)) (sx_var (pv 3)) (fun _ _ => rfl)) (sx_int) (fun _ _ => rfl)) (sx_ix (sx_ix (sx_var (pv 1)) (sx_var (pv 4)) (fun _ _ => rfl)) (sx_int) (fun _ _ => rfl))) (sb_cons (ss_cond ((su_or (st_cm (sx_var (pv 2)) (sx_var (pv 5)) rfl hv rfl) (su_or1 (st_cm (sx_var (pv 2)) (sx_var (pv 6)) rfl hv rfl))).st) (sb_one (ss_ret (sx_bool) rfl)) (sb_nil)) (sb_one (ss_ret (sx_cm (sx_call ((C.c_count_for).call hr hg tk) (by rfl) (by decide) (sa_cons (sx_var (pv 0)) (sa_cons (sx_var (pv 5)) (sa_cons (sx_var (pv 2)) (sa_nil) rfl rfl) rfl rfl) rfl rfl) (by rfl) (by rfl)) (sx_call ((C.c_count_for).call hr hg tk) (by rfl) (by decide) (sa_cons (sx_var (pv 0)) (sa_cons (sx_ix (sx_ix (sx_var (pv 1)) (sx_var (pv 4)) (fun _ _ => rfl)) (sx_int) (fun _ _ => rfl)) (sa_cons (sx_var (pv 2)) (sa_nil) rfl rfl) rfl rfl) rfl rfl) (by rfl) (by rfl)) rfl hv rfl) rfl)))⟩
def f_is_evidence : Iv.Fn := ⟨["friends", "reports", "person", "i", "j"], ["friends", "reports", "person", "i", "j", "row", "blocked"], [], b_is_evidence⟩
abbrev s_bounds_for : Stmt := topS 13
theorem sc_bounds_for : FnScope ["friends", "reports", "person", "enough", "too_few", "row", "blocked"] ["friends", "reports", "person"] (defScope s_bounds_for) := ⟨rfl, rfl, rfl, by decide +kernel, rfl, by decide +kernel, by decide +kernel⟩
def b_bounds_for : Iv.C := .seq (.set 3 (.comp .seq (.cons (.var 1) .nil) (.cons (.name 5) (.cons (.name 6) .nil)) (.cm .in_ (.var 2) (.var 5)) (.call "count_for" (.cons (.var 0) (.cons (.var 5) (.cons (.var 2) (.nil))))))) (.seq (.set 4 (.comp .seq (.cons (.var 1) .nil) (.cons (.name 5) (.cons (.name 6) .nil)) (.cm .eq (.var 2) (.var 6)) (.call "count_for" (.cons (.var 0) (.cons (.var 5) (.cons (.var 2) (.nil))))))) (.ret (.tup (.cons (.op .add (.mmd true (.var 4) (.neg (.c (.int 1)))) (.c (.int 1))) (.cons (.mmd false (.var 3) (.c .none)) (.nil))))))
theorem d_bounds_for {P : Program} {w : World} {K : PySem.W.Frag} {mg : Str → Option Value} {base : Heap} {Γ : Str → Option Iv.Fn} {k : Nat} {f : Addr} (T : Txt K mg) (C : AllCO P w K mg base k (Iv.runF Γ k) (caK K)) (cdv : Value) (A : Around) (outer : List Env) (s : Shared) (H : Hp) (E : XK) (hr : Room k (A.deeper (envOfC "bounds_for" (defScope s_bounds_for) s.heap.objs.size f cdv))) (hgd : A.guards = some []) :
    Iv.SBx ⟨Iv.runF Γ k, fun cls d _ H => E cls d H, caK K⟩ (cxOf (L2.CX P w) P w K mg base ["friends", "reports", "person", "enough", "too_few", "row", "blocked"] "bounds_for" (defScope s_bounds_for) f cdv A outer s H E) [] (defBody s_bounds_for) b_bounds_for := by
  have nd := sc_bounds_for.nd
  have hu := hr.units
  have hv := units65 hr
  have hg : (A.deeper (envOfC "bounds_for" (defScope s_bounds_for) s.heap.objs.size f cdv)).guards = some [] := hgd
  have tk : Takes (cxOf (L2.CX P w) P w K mg base ["friends", "reports", "person", "enough", "too_few", "row", "blocked"] "bounds_for" (defScope s_bounds_for) f cdv A outer s H E) (fun cls d _ H => E cls d H) := takes_of rfl rfl rfl rfl
  have po : PassesOwn (model P w) (A.deeper (envOfC "bounds_for" (defScope s_bounds_for) s.heap.objs.size f cdv)) (envOfC "bounds_for" (defScope s_bounds_for) s.heap.objs.size f cdv) (cxOf (L2.CX P w) P w K mg base ["friends", "reports", "person", "enough", "too_few", "row", "blocked"] "bounds_for" (defScope s_bounds_for) f cdv A outer s H E).xe := passes_of (X := (cxOf (L2.CX P w) P w K mg base ["friends", "reports", "person", "enough", "too_few", "row", "blocked"] "bounds_for" (defScope s_bounds_for) f cdv A outer s H E)) rfl
  exact ⟨sb_cons (ss_setLc (i := 3) (own := [("row", 5), ("blocked", 6)]) rfl nd rfl rfl (sw_true rfl rfl rfl (by decide +kernel)) (by exact blkOk_by (N := ["friends", "reports", "person", "enough", "too_few", "row", "blocked"]) (sc := (defScope s_bounds_for)) (by decide +kernel)) rfl (si_seq (sx_var (pv 1)) rfl) (fun _ _ _ _ _ => sg_tup rfl (sgs_cons (sg_name nd rfl (by first | exact Or.inl rfl | exact Or.inr rfl) (by first | exact Or.inl rfl | exact Or.inr rfl)) (sgs_one (sg_name nd rfl (by first | exact Or.inl rfl | exact Or.inr rfl) (by first | exact Or.inl rfl | exact Or.inr rfl)) rfl) (by intro z; cases z) rfl) (by intro i z; cases z) rfl rfl) (fun _ _ _ _ _ => sts_one (st_cm (sx_var (pv 2)) (sx_var (pv 5)) rfl hv rfl)) (fun _ _ _ _ _ => sx_call ((C.c_count_for).call hr hg takes0) (by rfl) (by decide) (sa_cons (sx_var (pv 0)) (sa_cons (sx_var (pv 5)) (sa_cons (sx_var (pv 2)) (sa_nil) rfl rfl) rfl rfl) rfl rfl) (by rfl) (by rfl)) (fun _ => rfl)) (sb_cons (ss_setLc (i := 4) (own := [("row", 5), ("blocked", 6)]) rfl nd rfl rfl (sw_true rfl rfl rfl (by decide +kernel)) (by exact blkOk_by (N := ["friends", "reports", "person", "enough", "too_few", "row", "blocked"]) (sc := (defScope s_bounds_for)) (by decide +kernel)) rfl (si_seq (sx_var (pv 1)) rfl) (fun _ _ _ _ _ => sg_tup rfl (sgs_cons (sg_name nd rfl (by first | exact Or.inl rfl | exact Or.inr rfl) (by first | exact Or.inl rfl | exact Or.inr rfl)) (sgs_one (sg_name nd rfl (by first | exact Or.inl rfl | exact Or.inr rfl) (by first | exact Or.inl rfl | exact Or.inr rfl)) rfl) (by intro z; cases z) rfl) (by intro i z; cases z) rfl rfl) (fun _ _ _ _ _ => sts_one (st_cm (sx_var (pv 2)) (sx_var (pv 6)) rfl hv rfl)) (fun _ _ _ _ _ => sx_call ((C.c_count_for).call hr hg takes0) (by rfl) (by decide) (sa_cons (sx_var (pv 0)) (sa_cons (sx_var (pv 5)) (sa_cons (sx_var (pv 2)) (sa_nil) rfl rfl) rfl rfl) rfl rfl) (by rfl) (by rfl)) (fun _ => rfl)) (sb_one (ss_ret (sx_tup (sa_cons (sx_op (sx_mmd (b_max (by rfl) T.m_max) rfl (sx_var (pv 4)) (sx_neg (sx_int)) rfl hv rfl (by rfl) (by rfl) (by rfl)) (sx_int) rfl) (sa_cons (sx_mmd (b_min (by rfl) T.m_min) rfl (sx_var (pv 3)) (sx_none) rfl hv rfl (by rfl) (by rfl) (by rfl)) (sa_nil) rfl rfl) rfl rfl)) rfl)))⟩
def f_bounds_for : Iv.Fn := ⟨["friends", "reports", "person"], ["friends", "reports", "person", "enough", "too_few", "row", "blocked"], [], b_bounds_for⟩
abbrev s_is_within : Stmt := topS 14
theorem sc_is_within : FnScope ["need", "bounds", "least", "most"] ["need", "bounds"] (defScope s_is_within) := ⟨rfl, rfl, rfl, by decide +kernel, rfl, by decide +kernel, by decide +kernel⟩
def b_is_within : Iv.C := .seq (.unp (.cons (.name 2) (.cons (.name 3) .nil)) (.var 1)) (.ret (.and (.cm .ge (.var 0) (.var 2)) (.or (.cm .is_ (.var 3) (.c .none)) (.cm .le (.var 0) (.var 3)))))
theorem d_is_within {P : Program} {w : World} {K : PySem.W.Frag} {mg : Str → Option Value} {base : Heap} {Γ : Str → Option Iv.Fn} {k : Nat} {f : Addr} (T : Txt K mg) (C : AllCO P w K mg base k (Iv.runF Γ k) (caK K)) (cdv : Value) (A : Around) (outer : List Env) (s : Shared) (H : Hp) (E : XK) (hr : Room k (A.deeper (envOfC "is_within" (defScope s_is_within) s.heap.objs.size f cdv))) (hgd : A.guards = some []) :
    Iv.SBx ⟨Iv.runF Γ k, fun cls d _ H => E cls d H, caK K⟩ (cxOf (L2.CX P w) P w K mg base ["need", "bounds", "least", "most"] "is_within" (defScope s_is_within) f cdv A outer s H E) [] (defBody s_is_within) b_is_within := by
  have nd := sc_is_within.nd
  have hu := hr.units
  have hv := units65 hr
  have hg : (A.deeper (envOfC "is_within" (defScope s_is_within) s.heap.objs.size f cdv)).guards = some [] := hgd
  have tk : Takes (cxOf (L2.CX P w) P w K mg base ["need", "bounds", "least", "most"] "is_within" (defScope s_is_within) f cdv A outer s H E) (fun cls d _ H => E cls d H) := takes_of rfl rfl rfl rfl
  have po : PassesOwn (model P w) (A.deeper (envOfC "is_within" (defScope s_is_within) s.heap.objs.size f cdv)) (envOfC "is_within" (defScope s_is_within) s.heap.objs.size f cdv) (cxOf (L2.CX P w) P w K mg base ["need", "bounds", "least", "most"] "is_within" (defScope s_is_within) f cdv A outer s H E).xe := passes_of (X := (cxOf (L2.CX P w) P w K mg base ["need", "bounds", "least", "most"] "is_within" (defScope s_is_within) f cdv A outer s H E)) rfl
  exact ⟨sb_cons (ss_unp (ps_asg pe_we pg_wg) (sx_var (pv 1)) (sg_tup rfl (sgs_cons (sg_name nd rfl (by first | exact Or.inl rfl | exact Or.inr rfl) (by first | exact Or.inl rfl | exact Or.inr rfl)) (sgs_one (sg_name nd rfl (by first | exact Or.inl rfl | exact Or.inr rfl) (by first | exact Or.inl rfl | exact Or.inr rfl)) rfl) (by intro z; cases z) rfl) (by intro i z; cases z) rfl rfl)) (sb_one (ss_ret (sx_and (sx_cm (sx_var (pv 0)) (sx_var (pv 2)) rfl hv rfl) (sx_one (sx_or (sx_cm (sx_var (pv 3)) (sx_none) rfl hv rfl) (sx_one (sx_cm (sx_var (pv 0)) (sx_var (pv 3)) rfl hv rfl).se)).se)) rfl))⟩
def f_is_within : Iv.Fn := ⟨["need", "bounds"], ["need", "bounds", "least", "most"], [], b_is_within⟩
abbrev s_count_for : Stmt := topS 15
theorem sc_count_for : FnScope ["friends", "row", "person", "ahead"] ["friends", "row", "person"] (defScope s_count_for) := ⟨rfl, rfl, rfl, by decide +kernel, rfl, by decide +kernel, by decide +kernel⟩
def b_count_for : Iv.C := .seq (.set 3 (.ite (.cm .in_ (.var 2) (.var 1)) (.sl (.var 1) (.nil) (.idx (.var 1) (.var 2))) (.var 1))) (.ret (.call "count_in" (.cons (.ix (.var 0) (.var 2)) (.cons (.var 3) (.nil)))))
theorem d_count_for {P : Program} {w : World} {K : PySem.W.Frag} {mg : Str → Option Value} {base : Heap} {Γ : Str → Option Iv.Fn} {k : Nat} {f : Addr} (T : Txt K mg) (C : AllCO P w K mg base k (Iv.runF Γ k) (caK K)) (cdv : Value) (A : Around) (outer : List Env) (s : Shared) (H : Hp) (E : XK) (hr : Room k (A.deeper (envOfC "count_for" (defScope s_count_for) s.heap.objs.size f cdv))) (hgd : A.guards = some []) :
    Iv.SBx ⟨Iv.runF Γ k, fun cls d _ H => E cls d H, caK K⟩ (cxOf (L2.CX P w) P w K mg base ["friends", "row", "person", "ahead"] "count_for" (defScope s_count_for) f cdv A outer s H E) [] (defBody s_count_for) b_count_for := by
  have nd := sc_count_for.nd
  have hu := hr.units
  have hv := units65 hr
  have hg : (A.deeper (envOfC "count_for" (defScope s_count_for) s.heap.objs.size f cdv)).guards = some [] := hgd
  have tk : Takes (cxOf (L2.CX P w) P w K mg base ["friends", "row", "person", "ahead"] "count_for" (defScope s_count_for) f cdv A outer s H E) (fun cls d _ H => E cls d H) := takes_of rfl rfl rfl rfl
  have po : PassesOwn (model P w) (A.deeper (envOfC "count_for" (defScope s_count_for) s.heap.objs.size f cdv)) (envOfC "count_for" (defScope s_count_for) s.heap.objs.size f cdv) (cxOf (L2.CX P w) P w K mg base ["friends", "row", "person", "ahead"] "count_for" (defScope s_count_for) f cdv A outer s H E).xe := passes_of (X := (cxOf (L2.CX P w) P w K mg base ["friends", "row", "person", "ahead"] "count_for" (defScope s_count_for) f cdv A outer s H E)) rfl
  exact ⟨sb_cons (@ss_set _ _ _ _ _ 3 (WE _ _) (ps_set (i := 3) nd rfl (by first | exact Or.inl rfl | exact Or.inr rfl) pe_we rfl) (sx_ite (st_cm (sx_var (pv 2)) (sx_var (pv 1)) rfl hv rfl) (sx_sl (sx_var (pv 1)) (.no) (.some (sx_idx (sx_var (pv 1)) (sx_var (pv 2)) (pe_bm PySem.F.plainAttrs_list PySem.F.slot_list_index PySem.F.type_list_index mt_index pe_we (pa_cons pe_we pa_nil rfl)) (pe_bmT PySem.F.slot_tuple_index PySem.F.type_tuple_index mt_indexT pe_we (pa_cons pe_we pa_nil rfl) rfl rfl rfl rfl rfl PySem.F.plainAttrs_tuple)) rfl)) (sx_var (pv 1))).se) (sb_one (ss_ret (sx_call ((C.c_count_in).call hr hg tk) (by rfl) (by decide) (sa_cons (sx_ix (sx_var (pv 0)) (sx_var (pv 2)) (fun _ _ => rfl)) (sa_cons (sx_var (pv 3)) (sa_nil) rfl rfl) rfl rfl) (by rfl) (by rfl)) rfl))⟩
def f_count_for : Iv.Fn := ⟨["friends", "row", "person"], ["friends", "row", "person", "ahead"], [], b_count_for⟩
abbrev s__law_cell_at : Stmt := topS 17
theorem sc__law_cell_at : FnScope ["_law_script", "_law_k"] ["_law_script", "_law_k"] (defScope s__law_cell_at) := ⟨rfl, rfl, rfl, by decide +kernel, rfl, by decide +kernel, by decide +kernel⟩
def b__law_cell_at : Iv.C := .seq (.cond (.cm .lt (.var 1) (.b1 .len (.var 0))) (.ret (.ix (.var 0) (.var 1))) (.skip)) (.ret (.c (.int 0)))
theorem d__law_cell_at {P : Program} {w : World} {K : PySem.W.Frag} {mg : Str → Option Value} {base : Heap} {Γ : Str → Option Iv.Fn} {k : Nat} {f : Addr} (T : Txt K mg) (C : AllCO P w K mg base k (Iv.runF Γ k) (caK K)) (cdv : Value) (A : Around) (outer : List Env) (s : Shared) (H : Hp) (E : XK) (hr : Room k (A.deeper (envOfC "_law_cell_at" (defScope s__law_cell_at) s.heap.objs.size f cdv))) (hgd : A.guards = some []) :
    Iv.SBx ⟨Iv.runF Γ k, fun cls d _ H => E cls d H, caK K⟩ (cxOf (L2.CX P w) P w K mg base ["_law_script", "_law_k"] "_law_cell_at" (defScope s__law_cell_at) f cdv A outer s H E) [] (defBody s__law_cell_at) b__law_cell_at := by
  have nd := sc__law_cell_at.nd
  have hu := hr.units
  have hv := units65 hr
  have hg : (A.deeper (envOfC "_law_cell_at" (defScope s__law_cell_at) s.heap.objs.size f cdv)).guards = some [] := hgd
  have tk : Takes (cxOf (L2.CX P w) P w K mg base ["_law_script", "_law_k"] "_law_cell_at" (defScope s__law_cell_at) f cdv A outer s H E) (fun cls d _ H => E cls d H) := takes_of rfl rfl rfl rfl
  have po : PassesOwn (model P w) (A.deeper (envOfC "_law_cell_at" (defScope s__law_cell_at) s.heap.objs.size f cdv)) (envOfC "_law_cell_at" (defScope s__law_cell_at) s.heap.objs.size f cdv) (cxOf (L2.CX P w) P w K mg base ["_law_script", "_law_k"] "_law_cell_at" (defScope s__law_cell_at) f cdv A outer s H E).xe := passes_of (X := (cxOf (L2.CX P w) P w K mg base ["_law_script", "_law_k"] "_law_cell_at" (defScope s__law_cell_at) f cdv A outer s H E)) rfl
  exact ⟨sb_cons (ss_cond (st_cm (sx_var (pv 1)) (sx_b1 (k := .len) (b_len (by rfl) T.m_len) (sx_var (pv 0)) rfl hg hu rfl) rfl hv rfl) (sb_one (ss_ret (sx_ix (sx_var (pv 0)) (sx_var (pv 1)) (fun _ _ => rfl)) rfl)) (sb_nil)) (sb_one (ss_ret (sx_int) rfl))⟩
def f__law_cell_at : Iv.Fn := ⟨["_law_script", "_law_k"], ["_law_script", "_law_k"], [], b__law_cell_at⟩
abbrev s__law_box : Stmt := topS 18
theorem sc__law_box : FnScope ["_law_script", "_law_k", "_law_core"] ["_law_script", "_law_k"] (defScope s__law_box) := ⟨rfl, rfl, rfl, by decide +kernel, rfl, by decide +kernel, by decide +kernel⟩
def b__law_box : Iv.C := .seq (.set 2 (.call "_law_cell_at" (.cons (.var 0) (.cons (.var 1) (.nil))))) (.ret (.lst (.cons (.op .mul (.b1 .abs (.var 2)) (.b1 .int (.cm .ge (.b1 .abs (.var 2)) (.op .pow (.c (.int 10)) (.c (.int 18)))))) (.cons (.op .add (.op .add (.op .mod (.var 2) (.c (.int 2305843009213693951))) (.op .mul (.c (.int 39373)) (.var 1))) (.c (.int 29))) (.cons (.c (.int 0)) (.nil))))))
theorem d__law_box {P : Program} {w : World} {K : PySem.W.Frag} {mg : Str → Option Value} {base : Heap} {Γ : Str → Option Iv.Fn} {k : Nat} {f : Addr} (T : Txt K mg) (C : AllCO P w K mg base k (Iv.runF Γ k) (caK K)) (cdv : Value) (A : Around) (outer : List Env) (s : Shared) (H : Hp) (E : XK) (hr : Room k (A.deeper (envOfC "_law_box" (defScope s__law_box) s.heap.objs.size f cdv))) (hgd : A.guards = some []) :
    Iv.SBx ⟨Iv.runF Γ k, fun cls d _ H => E cls d H, caK K⟩ (cxOf (L2.CX P w) P w K mg base ["_law_script", "_law_k", "_law_core"] "_law_box" (defScope s__law_box) f cdv A outer s H E) [] (defBody s__law_box) b__law_box := by
  have nd := sc__law_box.nd
  have hu := hr.units
  have hv := units65 hr
  have hg : (A.deeper (envOfC "_law_box" (defScope s__law_box) s.heap.objs.size f cdv)).guards = some [] := hgd
  have tk : Takes (cxOf (L2.CX P w) P w K mg base ["_law_script", "_law_k", "_law_core"] "_law_box" (defScope s__law_box) f cdv A outer s H E) (fun cls d _ H => E cls d H) := takes_of rfl rfl rfl rfl
  have po : PassesOwn (model P w) (A.deeper (envOfC "_law_box" (defScope s__law_box) s.heap.objs.size f cdv)) (envOfC "_law_box" (defScope s__law_box) s.heap.objs.size f cdv) (cxOf (L2.CX P w) P w K mg base ["_law_script", "_law_k", "_law_core"] "_law_box" (defScope s__law_box) f cdv A outer s H E).xe := passes_of (X := (cxOf (L2.CX P w) P w K mg base ["_law_script", "_law_k", "_law_core"] "_law_box" (defScope s__law_box) f cdv A outer s H E)) rfl
  exact ⟨sb_cons (@ss_set _ _ _ _ _ 2 (WE _ _) (ps_set (i := 2) nd rfl (by first | exact Or.inl rfl | exact Or.inr rfl) pe_we rfl) (sx_call ((C.c__law_cell_at).call hr hg tk) (by rfl) (by decide) (sa_cons (sx_var (pv 0)) (sa_cons (sx_var (pv 1)) (sa_nil) rfl rfl) rfl rfl) (by rfl) (by rfl)).se) (sb_one (ss_ret (sx_lst (sa_cons (sx_op (sx_b1 (k := .abs) (b_abs (by rfl) T.m_abs) (sx_var (pv 2)) rfl hg hu rfl) (sx_b1 (k := .int) (b_int (by rfl) T.m_int) (sx_cm (sx_b1 (k := .abs) (b_abs (by rfl) T.m_abs) (sx_var (pv 2)) rfl hg hu rfl) (sx_op (sx_int) (sx_int) rfl) rfl hv rfl) rfl hg hu rfl) rfl) (sa_cons (sx_op (sx_op (sx_op (sx_var (pv 2)) (sx_int) rfl) (sx_op (sx_int) (sx_var (pv 1)) rfl) rfl) (sx_int) rfl) (sa_cons (sx_int) (sa_nil) rfl rfl) rfl rfl) rfl rfl)) rfl))⟩
def f__law_box : Iv.Fn := ⟨["_law_script", "_law_k"], ["_law_script", "_law_k", "_law_core"], [], b__law_box⟩
abbrev s__law_take : Stmt := topS 19
theorem sc__law_take : FnScope ["_law_box_here", "_law_below", "_law_once", "_law_twice", "_law_found"] ["_law_box_here", "_law_below"] (defScope s__law_take) := ⟨rfl, rfl, rfl, by decide +kernel, rfl, by decide +kernel, by decide +kernel⟩
def b__law_take_0 : Iv.C := .cond (.cm .gt (.ix (.var 0) (.c (.int 0))) (.c (.int 0))) (.seq (.set 4 (.op .mod (.ix (.var 0) (.c (.int 0))) (.var 1))) (.seq (.put 0 (.c (.int 0)) (.op .fdiv (.ix (.var 0) (.c (.int 0))) (.var 1))) (.ret (.var 4)))) (.skip)
abbrev s__law_take_0 : Stmt := (defBody s__law_take).getD 0 (.Pass ⟨0, 0, 0, 0⟩)
theorem d__law_take_0 {P : Program} {w : World} {K : PySem.W.Frag} {mg : Str → Option Value} {base : Heap} {Γ : Str → Option Iv.Fn} {k : Nat} {f : Addr} (T : Txt K mg) (C : AllCO P w K mg base k (Iv.runF Γ k) (caK K)) (cdv : Value) (A : Around) (outer : List Env) (s : Shared) (H : Hp) (E : XK) (hr : Room k (A.deeper (envOfC "_law_take" (defScope s__law_take) s.heap.objs.size f cdv))) (hgd : A.guards = some []) :
    Iv.SSx ⟨Iv.runF Γ k, fun cls d _ H => E cls d H, caK K⟩ (cxOf (L2.CX P w) P w K mg base ["_law_box_here", "_law_below", "_law_once", "_law_twice", "_law_found"] "_law_take" (defScope s__law_take) f cdv A outer s H E) [0] s__law_take_0 b__law_take_0 := by
  have nd := sc__law_take.nd
  have hu := hr.units
  have hv := units65 hr
  have hg : (A.deeper (envOfC "_law_take" (defScope s__law_take) s.heap.objs.size f cdv)).guards = some [] := hgd
  have tk : Takes (cxOf (L2.CX P w) P w K mg base ["_law_box_here", "_law_below", "_law_once", "_law_twice", "_law_found"] "_law_take" (defScope s__law_take) f cdv A outer s H E) (fun cls d _ H => E cls d H) := takes_of rfl rfl rfl rfl
  have po : PassesOwn (model P w) (A.deeper (envOfC "_law_take" (defScope s__law_take) s.heap.objs.size f cdv)) (envOfC "_law_take" (defScope s__law_take) s.heap.objs.size f cdv) (cxOf (L2.CX P w) P w K mg base ["_law_box_here", "_law_below", "_law_once", "_law_twice", "_law_found"] "_law_take" (defScope s__law_take) f cdv A outer s H E).xe := passes_of (X := (cxOf (L2.CX P w) P w K mg base ["_law_box_here", "_law_below", "_law_once", "_law_twice", "_law_found"] "_law_take" (defScope s__law_take) f cdv A outer s H E)) rfl
  exact ⟨ss_cond (st_cm (sx_ix (sx_var (pv 0)) (sx_int) (fun _ _ => rfl)) (sx_int) rfl hv rfl) (sb_cons (@ss_set _ _ _ _ _ 4 (WE _ _) (ps_set (i := 4) nd rfl (by first | exact Or.inl rfl | exact Or.inr rfl) pe_we rfl) (sx_op (sx_ix (sx_var (pv 0)) (sx_int) (fun _ _ => rfl)) (sx_var (pv 1)) rfl).se) (sb_cons (ss_put (ps_asg pe_we (pg_sub (pv 0) pe_we set_list)) (sx_op (sx_ix (sx_var (pv 0)) (sx_int) (fun _ _ => rfl)) (sx_var (pv 1)) rfl) (sx_int)) (sb_one (ss_retV (pv 4))))) (sb_nil)⟩
def b__law_take_1 : Iv.C := .cond (.cm .gt (.var 1) (.op .pow (.c (.int 10)) (.c (.int 7)))) (.ret (.op .mod (.op .add (.call "_law_take" (.cons (.ref 0) (.cons (.op .pow (.c (.int 10)) (.c (.int 7))) (.nil)))) (.op .mul (.op .pow (.c (.int 10)) (.c (.int 7))) (.call "_law_take" (.cons (.ref 0) (.cons (.op .add (.op .fdiv (.var 1) (.op .pow (.c (.int 10)) (.c (.int 7)))) (.c (.int 1))) (.nil)))))) (.var 1))) (.skip)
abbrev s__law_take_1 : Stmt := (defBody s__law_take).getD 1 (.Pass ⟨0, 0, 0, 0⟩)
theorem d__law_take_1 {P : Program} {w : World} {K : PySem.W.Frag} {mg : Str → Option Value} {base : Heap} {Γ : Str → Option Iv.Fn} {k : Nat} {f : Addr} (T : Txt K mg) (C : AllCO P w K mg base k (Iv.runF Γ k) (caK K)) (cdv : Value) (A : Around) (outer : List Env) (s : Shared) (H : Hp) (E : XK) (hr : Room k (A.deeper (envOfC "_law_take" (defScope s__law_take) s.heap.objs.size f cdv))) (hgd : A.guards = some []) :
    Iv.SSx ⟨Iv.runF Γ k, fun cls d _ H => E cls d H, caK K⟩ (cxOf (L2.CX P w) P w K mg base ["_law_box_here", "_law_below", "_law_once", "_law_twice", "_law_found"] "_law_take" (defScope s__law_take) f cdv A outer s H E) [0] s__law_take_1 b__law_take_1 := by
  have nd := sc__law_take.nd
  have hu := hr.units
  have hv := units65 hr
  have hg : (A.deeper (envOfC "_law_take" (defScope s__law_take) s.heap.objs.size f cdv)).guards = some [] := hgd
  have tk : Takes (cxOf (L2.CX P w) P w K mg base ["_law_box_here", "_law_below", "_law_once", "_law_twice", "_law_found"] "_law_take" (defScope s__law_take) f cdv A outer s H E) (fun cls d _ H => E cls d H) := takes_of rfl rfl rfl rfl
  have po : PassesOwn (model P w) (A.deeper (envOfC "_law_take" (defScope s__law_take) s.heap.objs.size f cdv)) (envOfC "_law_take" (defScope s__law_take) s.heap.objs.size f cdv) (cxOf (L2.CX P w) P w K mg base ["_law_box_here", "_law_below", "_law_once", "_law_twice", "_law_found"] "_law_take" (defScope s__law_take) f cdv A outer s H E).xe := passes_of (X := (cxOf (L2.CX P w) P w K mg base ["_law_box_here", "_law_below", "_law_once", "_law_twice", "_law_found"] "_law_take" (defScope s__law_take) f cdv A outer s H E)) rfl
  exact ⟨ss_cond (st_cm (sx_var (pv 1)) (sx_op (sx_int) (sx_int) rfl) rfl hv rfl) (sb_one (ss_ret (sx_op (sx_op (sx_call ((C.c__law_take).call hr hg tk) (by rfl) (by decide) (sa_ref (pv 0) (sa_cons (sx_op (sx_int) (sx_int) rfl) (sa_nil) rfl rfl) rfl) (by rfl) (by rfl)) (sx_op (sx_op (sx_int) (sx_int) rfl) (sx_call ((C.c__law_take).call hr hg tk) (by rfl) (by decide) (sa_ref (pv 0) (sa_cons (sx_op (sx_op (sx_var (pv 1)) (sx_op (sx_int) (sx_int) rfl) rfl) (sx_int) rfl) (sa_nil) rfl rfl) rfl) (by rfl) (by rfl)) rfl) rfl) (sx_var (pv 1)) rfl) rfl)) (sb_nil)⟩
def b__law_take_2 : Iv.C := .put 0 (.c (.int 2)) (.op .add (.ix (.var 0) (.c (.int 2))) (.c (.int 1)))
abbrev s__law_take_2 : Stmt := (defBody s__law_take).getD 2 (.Pass ⟨0, 0, 0, 0⟩)
theorem d__law_take_2 {P : Program} {w : World} {K : PySem.W.Frag} {mg : Str → Option Value} {base : Heap} {Γ : Str → Option Iv.Fn} {k : Nat} {f : Addr} (T : Txt K mg) (C : AllCO P w K mg base k (Iv.runF Γ k) (caK K)) (cdv : Value) (A : Around) (outer : List Env) (s : Shared) (H : Hp) (E : XK) (hr : Room k (A.deeper (envOfC "_law_take" (defScope s__law_take) s.heap.objs.size f cdv))) (hgd : A.guards = some []) :
    Iv.SSx ⟨Iv.runF Γ k, fun cls d _ H => E cls d H, caK K⟩ (cxOf (L2.CX P w) P w K mg base ["_law_box_here", "_law_below", "_law_once", "_law_twice", "_law_found"] "_law_take" (defScope s__law_take) f cdv A outer s H E) [0] s__law_take_2 b__law_take_2 := by
  have nd := sc__law_take.nd
  have hu := hr.units
  have hv := units65 hr
  have hg : (A.deeper (envOfC "_law_take" (defScope s__law_take) s.heap.objs.size f cdv)).guards = some [] := hgd
  have tk : Takes (cxOf (L2.CX P w) P w K mg base ["_law_box_here", "_law_below", "_law_once", "_law_twice", "_law_found"] "_law_take" (defScope s__law_take) f cdv A outer s H E) (fun cls d _ H => E cls d H) := takes_of rfl rfl rfl rfl
  have po : PassesOwn (model P w) (A.deeper (envOfC "_law_take" (defScope s__law_take) s.heap.objs.size f cdv)) (envOfC "_law_take" (defScope s__law_take) s.heap.objs.size f cdv) (cxOf (L2.CX P w) P w K mg base ["_law_box_here", "_law_below", "_law_once", "_law_twice", "_law_found"] "_law_take" (defScope s__law_take) f cdv A outer s H E).xe := passes_of (X := (cxOf (L2.CX P w) P w K mg base ["_law_box_here", "_law_below", "_law_once", "_law_twice", "_law_found"] "_law_take" (defScope s__law_take) f cdv A outer s H E)) rfl
  exact ⟨ss_put (ps_asg pe_we (pg_sub (pv 0) pe_we set_list)) (sx_op (sx_ix (sx_var (pv 0)) (sx_int) (fun _ _ => rfl)) (sx_int) rfl) (sx_int)⟩
def b__law_take_3 : Iv.C := .set 2 (.op .mod (.op .mul (.op .add (.ix (.var 0) (.c (.int 1))) (.op .mul (.c (.int 48271)) (.ix (.var 0) (.c (.int 2))))) (.op .add (.c (.int 39373)) (.ix (.var 0) (.c (.int 2))))) (.c (.int 2147483647)))
abbrev s__law_take_3 : Stmt := (defBody s__law_take).getD 3 (.Pass ⟨0, 0, 0, 0⟩)
theorem d__law_take_3 {P : Program} {w : World} {K : PySem.W.Frag} {mg : Str → Option Value} {base : Heap} {Γ : Str → Option Iv.Fn} {k : Nat} {f : Addr} (T : Txt K mg) (C : AllCO P w K mg base k (Iv.runF Γ k) (caK K)) (cdv : Value) (A : Around) (outer : List Env) (s : Shared) (H : Hp) (E : XK) (hr : Room k (A.deeper (envOfC "_law_take" (defScope s__law_take) s.heap.objs.size f cdv))) (hgd : A.guards = some []) :
    Iv.SSx ⟨Iv.runF Γ k, fun cls d _ H => E cls d H, caK K⟩ (cxOf (L2.CX P w) P w K mg base ["_law_box_here", "_law_below", "_law_once", "_law_twice", "_law_found"] "_law_take" (defScope s__law_take) f cdv A outer s H E) [0] s__law_take_3 b__law_take_3 := by
  have nd := sc__law_take.nd
  have hu := hr.units
  have hv := units65 hr
  have hg : (A.deeper (envOfC "_law_take" (defScope s__law_take) s.heap.objs.size f cdv)).guards = some [] := hgd
  have tk : Takes (cxOf (L2.CX P w) P w K mg base ["_law_box_here", "_law_below", "_law_once", "_law_twice", "_law_found"] "_law_take" (defScope s__law_take) f cdv A outer s H E) (fun cls d _ H => E cls d H) := takes_of rfl rfl rfl rfl
  have po : PassesOwn (model P w) (A.deeper (envOfC "_law_take" (defScope s__law_take) s.heap.objs.size f cdv)) (envOfC "_law_take" (defScope s__law_take) s.heap.objs.size f cdv) (cxOf (L2.CX P w) P w K mg base ["_law_box_here", "_law_below", "_law_once", "_law_twice", "_law_found"] "_law_take" (defScope s__law_take) f cdv A outer s H E).xe := passes_of (X := (cxOf (L2.CX P w) P w K mg base ["_law_box_here", "_law_below", "_law_once", "_law_twice", "_law_found"] "_law_take" (defScope s__law_take) f cdv A outer s H E)) rfl
  exact ⟨@ss_set _ _ _ _ _ 2 (WE _ _) (ps_set (i := 2) nd rfl (by first | exact Or.inl rfl | exact Or.inr rfl) pe_we rfl) (sx_op (sx_op (sx_op (sx_ix (sx_var (pv 0)) (sx_int) (fun _ _ => rfl)) (sx_op (sx_int) (sx_ix (sx_var (pv 0)) (sx_int) (fun _ _ => rfl)) rfl) rfl) (sx_op (sx_int) (sx_ix (sx_var (pv 0)) (sx_int) (fun _ _ => rfl)) rfl) rfl) (sx_int) rfl).se⟩
def b__law_take_4 : Iv.C := .set 3 (.op .mod (.op .mul (.op .add (.op .add (.var 2) (.ix (.var 0) (.c (.int 2)))) (.op .fdiv (.ix (.var 0) (.c (.int 1))) (.c (.int 1000003)))) (.op .add (.op .mod (.var 2) (.c (.int 40009))) (.c (.int 7)))) (.c (.int 2147483629)))
abbrev s__law_take_4 : Stmt := (defBody s__law_take).getD 4 (.Pass ⟨0, 0, 0, 0⟩)
theorem d__law_take_4 {P : Program} {w : World} {K : PySem.W.Frag} {mg : Str → Option Value} {base : Heap} {Γ : Str → Option Iv.Fn} {k : Nat} {f : Addr} (T : Txt K mg) (C : AllCO P w K mg base k (Iv.runF Γ k) (caK K)) (cdv : Value) (A : Around) (outer : List Env) (s : Shared) (H : Hp) (E : XK) (hr : Room k (A.deeper (envOfC "_law_take" (defScope s__law_take) s.heap.objs.size f cdv))) (hgd : A.guards = some []) :
    Iv.SSx ⟨Iv.runF Γ k, fun cls d _ H => E cls d H, caK K⟩ (cxOf (L2.CX P w) P w K mg base ["_law_box_here", "_law_below", "_law_once", "_law_twice", "_law_found"] "_law_take" (defScope s__law_take) f cdv A outer s H E) [0] s__law_take_4 b__law_take_4 := by
  have nd := sc__law_take.nd
  have hu := hr.units
  have hv := units65 hr
  have hg : (A.deeper (envOfC "_law_take" (defScope s__law_take) s.heap.objs.size f cdv)).guards = some [] := hgd
  have tk : Takes (cxOf (L2.CX P w) P w K mg base ["_law_box_here", "_law_below", "_law_once", "_law_twice", "_law_found"] "_law_take" (defScope s__law_take) f cdv A outer s H E) (fun cls d _ H => E cls d H) := takes_of rfl rfl rfl rfl
  have po : PassesOwn (model P w) (A.deeper (envOfC "_law_take" (defScope s__law_take) s.heap.objs.size f cdv)) (envOfC "_law_take" (defScope s__law_take) s.heap.objs.size f cdv) (cxOf (L2.CX P w) P w K mg base ["_law_box_here", "_law_below", "_law_once", "_law_twice", "_law_found"] "_law_take" (defScope s__law_take) f cdv A outer s H E).xe := passes_of (X := (cxOf (L2.CX P w) P w K mg base ["_law_box_here", "_law_below", "_law_once", "_law_twice", "_law_found"] "_law_take" (defScope s__law_take) f cdv A outer s H E)) rfl
  exact ⟨@ss_set _ _ _ _ _ 3 (WE _ _) (ps_set (i := 3) nd rfl (by first | exact Or.inl rfl | exact Or.inr rfl) pe_we rfl) (sx_op (sx_op (sx_op (sx_op (sx_var (pv 2)) (sx_ix (sx_var (pv 0)) (sx_int) (fun _ _ => rfl)) rfl) (sx_op (sx_ix (sx_var (pv 0)) (sx_int) (fun _ _ => rfl)) (sx_int) rfl) rfl) (sx_op (sx_op (sx_var (pv 2)) (sx_int) rfl) (sx_int) rfl) rfl) (sx_int) rfl).se⟩
def b__law_take_5 : Iv.C := .ret (.op .mod (.op .fdiv (.op .mod (.op .add (.op .mul (.var 3) (.c (.int 48271))) (.var 2)) (.c (.int 2147483587))) (.c (.int 64))) (.var 1))
abbrev s__law_take_5 : Stmt := (defBody s__law_take).getD 5 (.Pass ⟨0, 0, 0, 0⟩)
theorem d__law_take_5 {P : Program} {w : World} {K : PySem.W.Frag} {mg : Str → Option Value} {base : Heap} {Γ : Str → Option Iv.Fn} {k : Nat} {f : Addr} (T : Txt K mg) (C : AllCO P w K mg base k (Iv.runF Γ k) (caK K)) (cdv : Value) (A : Around) (outer : List Env) (s : Shared) (H : Hp) (E : XK) (hr : Room k (A.deeper (envOfC "_law_take" (defScope s__law_take) s.heap.objs.size f cdv))) (hgd : A.guards = some []) :
    Iv.SSx ⟨Iv.runF Γ k, fun cls d _ H => E cls d H, caK K⟩ (cxOf (L2.CX P w) P w K mg base ["_law_box_here", "_law_below", "_law_once", "_law_twice", "_law_found"] "_law_take" (defScope s__law_take) f cdv A outer s H E) [0] s__law_take_5 b__law_take_5 := by
  have nd := sc__law_take.nd
  have hu := hr.units
  have hv := units65 hr
  have hg : (A.deeper (envOfC "_law_take" (defScope s__law_take) s.heap.objs.size f cdv)).guards = some [] := hgd
  have tk : Takes (cxOf (L2.CX P w) P w K mg base ["_law_box_here", "_law_below", "_law_once", "_law_twice", "_law_found"] "_law_take" (defScope s__law_take) f cdv A outer s H E) (fun cls d _ H => E cls d H) := takes_of rfl rfl rfl rfl
  have po : PassesOwn (model P w) (A.deeper (envOfC "_law_take" (defScope s__law_take) s.heap.objs.size f cdv)) (envOfC "_law_take" (defScope s__law_take) s.heap.objs.size f cdv) (cxOf (L2.CX P w) P w K mg base ["_law_box_here", "_law_below", "_law_once", "_law_twice", "_law_found"] "_law_take" (defScope s__law_take) f cdv A outer s H E).xe := passes_of (X := (cxOf (L2.CX P w) P w K mg base ["_law_box_here", "_law_below", "_law_once", "_law_twice", "_law_found"] "_law_take" (defScope s__law_take) f cdv A outer s H E)) rfl
  exact ⟨ss_ret (sx_op (sx_op (sx_op (sx_op (sx_op (sx_var (pv 3)) (sx_int) rfl) (sx_var (pv 2)) rfl) (sx_int) rfl) (sx_int) rfl) (sx_var (pv 1)) rfl) rfl⟩
def b__law_take : Iv.C := .seq b__law_take_0 (.seq b__law_take_1 (.seq b__law_take_2 (.seq b__law_take_3 (.seq b__law_take_4 (b__law_take_5)))))
theorem d__law_take {P : Program} {w : World} {K : PySem.W.Frag} {mg : Str → Option Value} {base : Heap} {Γ : Str → Option Iv.Fn} {k : Nat} {f : Addr} (T : Txt K mg) (C : AllCO P w K mg base k (Iv.runF Γ k) (caK K)) (cdv : Value) (A : Around) (outer : List Env) (s : Shared) (H : Hp) (E : XK) (hr : Room k (A.deeper (envOfC "_law_take" (defScope s__law_take) s.heap.objs.size f cdv))) (hgd : A.guards = some []) :
    Iv.SBx ⟨Iv.runF Γ k, fun cls d _ H => E cls d H, caK K⟩ (cxOf (L2.CX P w) P w K mg base ["_law_box_here", "_law_below", "_law_once", "_law_twice", "_law_found"] "_law_take" (defScope s__law_take) f cdv A outer s H E) [0] (defBody s__law_take) b__law_take := by
  exact sb_all (sb_at (body := defBody s__law_take) (i := 0) (d__law_take_0 T C cdv A outer s H E hr hgd) (sb_at (body := defBody s__law_take) (i := 1) (d__law_take_1 T C cdv A outer s H E hr hgd) (sb_at (body := defBody s__law_take) (i := 2) (d__law_take_2 T C cdv A outer s H E hr hgd) (sb_at (body := defBody s__law_take) (i := 3) (d__law_take_3 T C cdv A outer s H E hr hgd) (sb_at (body := defBody s__law_take) (i := 4) (d__law_take_4 T C cdv A outer s H E hr hgd) (sb_last (body := defBody s__law_take) (i := 5) (d__law_take_5 T C cdv A outer s H E hr hgd) (by decide +kernel) (by kernel_rfl)) (by decide +kernel)) (by decide +kernel)) (by decide +kernel)) (by decide +kernel)) (by decide +kernel))
def f__law_take : Iv.Fn := ⟨["_law_box_here", "_law_below"], ["_law_box_here", "_law_below", "_law_once", "_law_twice", "_law_found"], [0], b__law_take⟩
abbrev s__law_of : Stmt := topS 20
theorem sc__law_of : FnScope ["_law_box_here", "_law_some"] ["_law_box_here", "_law_some"] (defScope s__law_of) := ⟨rfl, rfl, rfl, by decide +kernel, rfl, by decide +kernel, by decide +kernel⟩
def b__law_of : Iv.C := .ret (.ix (.var 1) (.call "_law_take" (.cons (.ref 0) (.cons (.b1 .len (.var 1)) (.nil)))))
theorem d__law_of {P : Program} {w : World} {K : PySem.W.Frag} {mg : Str → Option Value} {base : Heap} {Γ : Str → Option Iv.Fn} {k : Nat} {f : Addr} (T : Txt K mg) (C : AllCO P w K mg base k (Iv.runF Γ k) (caK K)) (cdv : Value) (A : Around) (outer : List Env) (s : Shared) (H : Hp) (E : XK) (hr : Room k (A.deeper (envOfC "_law_of" (defScope s__law_of) s.heap.objs.size f cdv))) (hgd : A.guards = some []) :
    Iv.SBx ⟨Iv.runF Γ k, fun cls d _ H => E cls d H, caK K⟩ (cxOf (L2.CX P w) P w K mg base ["_law_box_here", "_law_some"] "_law_of" (defScope s__law_of) f cdv A outer s H E) [0] (defBody s__law_of) b__law_of := by
  have nd := sc__law_of.nd
  have hu := hr.units
  have hv := units65 hr
  have hg : (A.deeper (envOfC "_law_of" (defScope s__law_of) s.heap.objs.size f cdv)).guards = some [] := hgd
  have tk : Takes (cxOf (L2.CX P w) P w K mg base ["_law_box_here", "_law_some"] "_law_of" (defScope s__law_of) f cdv A outer s H E) (fun cls d _ H => E cls d H) := takes_of rfl rfl rfl rfl
  have po : PassesOwn (model P w) (A.deeper (envOfC "_law_of" (defScope s__law_of) s.heap.objs.size f cdv)) (envOfC "_law_of" (defScope s__law_of) s.heap.objs.size f cdv) (cxOf (L2.CX P w) P w K mg base ["_law_box_here", "_law_some"] "_law_of" (defScope s__law_of) f cdv A outer s H E).xe := passes_of (X := (cxOf (L2.CX P w) P w K mg base ["_law_box_here", "_law_some"] "_law_of" (defScope s__law_of) f cdv A outer s H E)) rfl
  exact ⟨sb_one (ss_ret (sx_ix (sx_var (pv 1)) (sx_call ((C.c__law_take).call hr hg tk) (by rfl) (by decide) (sa_ref (pv 0) (sa_cons (sx_b1 (k := .len) (b_len (by rfl) T.m_len) (sx_var (pv 1)) rfl hg hu rfl) (sa_nil) rfl rfl) rfl) (by rfl) (by rfl)) (fun _ _ => rfl)) rfl)⟩
def f__law_of : Iv.Fn := ⟨["_law_box_here", "_law_some"], ["_law_box_here", "_law_some"], [0], b__law_of⟩
abbrev s__law_same : Stmt := topS 21
theorem sc__law_same : FnScope ["_law_found", "_law_due", "_law_a", "_law_b"] ["_law_found", "_law_due"] (defScope s__law_same) := ⟨rfl, rfl, rfl, by decide +kernel, rfl, by decide +kernel, by decide +kernel⟩
def b__law_same_0 : Iv.C := .cond (.isi (.var 1) [.list, .tuple]) (.seq (.cond (.or (.cm .ne (.isi (.var 0) [.list]) (.isi (.var 1) [.list])) (.cm .ne (.isi (.var 0) [.tuple]) (.isi (.var 1) [.tuple]))) (.ret (.c (.bool false))) (.skip)) (.ret (.and (.cm .eq (.b1 .len (.var 0)) (.b1 .len (.var 1))) (.b1 .all (.comp .zip (.cons (.var 0) (.cons (.var 1) (.nil))) (.cons (.name 2) (.cons (.name 3) .nil)) (.c (.bool true)) (.call "_law_same" (.cons (.var 2) (.cons (.var 3) (.nil))))))))) (.skip)
abbrev s__law_same_0 : Stmt := (defBody s__law_same).getD 0 (.Pass ⟨0, 0, 0, 0⟩)
theorem d__law_same_0 {P : Program} {w : World} {K : PySem.W.Frag} {mg : Str → Option Value} {base : Heap} {Γ : Str → Option Iv.Fn} {k : Nat} {f : Addr} (T : Txt K mg) (C : AllCO P w K mg base k (Iv.runF Γ k) (caK K)) (cdv : Value) (A : Around) (outer : List Env) (s : Shared) (H : Hp) (E : XK) (hr : Room k (A.deeper (envOfC "_law_same" (defScope s__law_same) s.heap.objs.size f cdv))) (hgd : A.guards = some []) :
    Iv.SSx ⟨Iv.runF Γ k, fun cls d _ H => E cls d H, caK K⟩ (cxOf (L2.CX P w) P w K mg base ["_law_found", "_law_due", "_law_a", "_law_b"] "_law_same" (defScope s__law_same) f cdv A outer s H E) [] s__law_same_0 b__law_same_0 := by
  have nd := sc__law_same.nd
  have hu := hr.units
  have hv := units65 hr
  have hg : (A.deeper (envOfC "_law_same" (defScope s__law_same) s.heap.objs.size f cdv)).guards = some [] := hgd
  have tk : Takes (cxOf (L2.CX P w) P w K mg base ["_law_found", "_law_due", "_law_a", "_law_b"] "_law_same" (defScope s__law_same) f cdv A outer s H E) (fun cls d _ H => E cls d H) := takes_of rfl rfl rfl rfl
  have po : PassesOwn (model P w) (A.deeper (envOfC "_law_same" (defScope s__law_same) s.heap.objs.size f cdv)) (envOfC "_law_same" (defScope s__law_same) s.heap.objs.size f cdv) (cxOf (L2.CX P w) P w K mg base ["_law_found", "_law_due", "_law_a", "_law_b"] "_law_same" (defScope s__law_same) f cdv A outer s H E).xe := passes_of (X := (cxOf (L2.CX P w) P w K mg base ["_law_found", "_law_due", "_law_a", "_law_b"] "_law_same" (defScope s__law_same) f cdv A outer s H E)) rfl
  exact ⟨ss_cond (st_val (sx_isiT (b_isi (by rfl) T.m_isinstance) (.cons (t_list (by rfl) T.m_list) (.cons (t_tuple (by rfl) T.m_tuple) (.nil))) (by decide) (sx_var (pv 1)) rfl) (by intro _; rfl)) (sb_cons (ss_cond ((su_or (st_cm (sx_isi1 (b_isi (by rfl) T.m_isinstance) (t_list (by rfl) T.m_list) (sx_var (pv 0)) rfl) (sx_isi1 (b_isi (by rfl) T.m_isinstance) (t_list (by rfl) T.m_list) (sx_var (pv 1)) rfl) rfl hv rfl) (su_or1 (st_cm (sx_isi1 (b_isi (by rfl) T.m_isinstance) (t_tuple (by rfl) T.m_tuple) (sx_var (pv 0)) rfl) (sx_isi1 (b_isi (by rfl) T.m_isinstance) (t_tuple (by rfl) T.m_tuple) (sx_var (pv 1)) rfl) rfl hv rfl))).st) (sb_one (ss_ret (sx_bool) rfl)) (sb_nil)) (sb_one (ss_ret (sx_and (sx_cm (sx_b1 (k := .len) (b_len (by rfl) T.m_len) (sx_var (pv 0)) rfl hg hu rfl) (sx_b1 (k := .len) (b_len (by rfl) T.m_len) (sx_var (pv 1)) rfl hg hu rfl) rfl hv rfl) (sx_one (sx_b1 (k := .all) (b_all (by rfl) T.m_all) (sx_comp (own := [("_law_a", 2), ("_law_b", 3)]) rfl nd (by exact blkOk_by (N := ["_law_found", "_law_due", "_law_a", "_law_b"]) (sc := (defScope s__law_same)) (by decide +kernel)) rfl (si_zip (by rfl) T.m_zip (sa_cons (sx_var (pv 0)) (sa_cons (sx_var (pv 1)) (sa_nil) rfl rfl) rfl rfl) rfl rfl) (fun _ _ _ _ _ => sg_tup rfl (sgs_cons (sg_name nd rfl (by first | exact Or.inl rfl | exact Or.inr rfl) (by first | exact Or.inl rfl | exact Or.inr rfl)) (sgs_one (sg_name nd rfl (by first | exact Or.inl rfl | exact Or.inr rfl) (by first | exact Or.inl rfl | exact Or.inr rfl)) rfl) (by intro z; cases z) rfl) (by intro i z; cases z) rfl rfl) (fun _ _ _ _ _ => sts_nil) (fun _ _ _ _ _ => sx_call ((C.c__law_same).call hr hg takes0) (by rfl) (by decide) (sa_cons (sx_var (pv 2)) (sa_cons (sx_var (pv 3)) (sa_nil) rfl rfl) rfl rfl) (by rfl) (by rfl)) (fun _ => rfl)) rfl hg hu rfl).se)) rfl))) (sb_nil)⟩
def b__law_same_1 : Iv.C := .cond (.or (.cm .is_ (.var 1) (.c .none)) (.isi (.var 1) [.bool, .str])) (.ret (.and (.cm .eq (.var 0) (.var 1)) (.and (.cm .eq (.isi (.var 0) [.bool]) (.isi (.var 1) [.bool])) (.cm .eq (.cm .is_ (.var 0) (.c .none)) (.cm .is_ (.var 1) (.c .none)))))) (.skip)
abbrev s__law_same_1 : Stmt := (defBody s__law_same).getD 1 (.Pass ⟨0, 0, 0, 0⟩)
theorem d__law_same_1 {P : Program} {w : World} {K : PySem.W.Frag} {mg : Str → Option Value} {base : Heap} {Γ : Str → Option Iv.Fn} {k : Nat} {f : Addr} (T : Txt K mg) (C : AllCO P w K mg base k (Iv.runF Γ k) (caK K)) (cdv : Value) (A : Around) (outer : List Env) (s : Shared) (H : Hp) (E : XK) (hr : Room k (A.deeper (envOfC "_law_same" (defScope s__law_same) s.heap.objs.size f cdv))) (hgd : A.guards = some []) :
    Iv.SSx ⟨Iv.runF Γ k, fun cls d _ H => E cls d H, caK K⟩ (cxOf (L2.CX P w) P w K mg base ["_law_found", "_law_due", "_law_a", "_law_b"] "_law_same" (defScope s__law_same) f cdv A outer s H E) [] s__law_same_1 b__law_same_1 := by
  have nd := sc__law_same.nd
  have hu := hr.units
  have hv := units65 hr
  have hg : (A.deeper (envOfC "_law_same" (defScope s__law_same) s.heap.objs.size f cdv)).guards = some [] := hgd
  have tk : Takes (cxOf (L2.CX P w) P w K mg base ["_law_found", "_law_due", "_law_a", "_law_b"] "_law_same" (defScope s__law_same) f cdv A outer s H E) (fun cls d _ H => E cls d H) := takes_of rfl rfl rfl rfl
  have po : PassesOwn (model P w) (A.deeper (envOfC "_law_same" (defScope s__law_same) s.heap.objs.size f cdv)) (envOfC "_law_same" (defScope s__law_same) s.heap.objs.size f cdv) (cxOf (L2.CX P w) P w K mg base ["_law_found", "_law_due", "_law_a", "_law_b"] "_law_same" (defScope s__law_same) f cdv A outer s H E).xe := passes_of (X := (cxOf (L2.CX P w) P w K mg base ["_law_found", "_law_due", "_law_a", "_law_b"] "_law_same" (defScope s__law_same) f cdv A outer s H E)) rfl
  exact ⟨ss_cond ((su_or (st_cm (sx_var (pv 1)) (sx_none) rfl hv rfl) (su_or1 (st_val (sx_isiT (b_isi (by rfl) T.m_isinstance) (.cons (t_bool (by rfl) T.m_bool) (.cons (t_str (by rfl) T.m_str) (.nil))) (by decide) (sx_var (pv 1)) rfl) (by intro _; rfl)))).st) (sb_one (ss_ret (sx_and (sx_cm (sx_var (pv 0)) (sx_var (pv 1)) rfl hv rfl) ((sx_and (sx_cm (sx_isi1 (b_isi (by rfl) T.m_isinstance) (t_bool (by rfl) T.m_bool) (sx_var (pv 0)) rfl) (sx_isi1 (b_isi (by rfl) T.m_isinstance) (t_bool (by rfl) T.m_bool) (sx_var (pv 1)) rfl) rfl hv rfl) (sx_one (sx_cm (sx_cm (sx_var (pv 0)) (sx_none) rfl hv rfl) (sx_cm (sx_var (pv 1)) (sx_none) rfl hv rfl) rfl hv rfl).se)).se)) rfl)) (sb_nil)⟩
def b__law_same_2 : Iv.C := .ret (.and (.isi (.var 0) [.int]) (.and (.not (.isi (.var 0) [.bool])) (.cm .eq (.var 0) (.var 1))))
abbrev s__law_same_2 : Stmt := (defBody s__law_same).getD 2 (.Pass ⟨0, 0, 0, 0⟩)
theorem d__law_same_2 {P : Program} {w : World} {K : PySem.W.Frag} {mg : Str → Option Value} {base : Heap} {Γ : Str → Option Iv.Fn} {k : Nat} {f : Addr} (T : Txt K mg) (C : AllCO P w K mg base k (Iv.runF Γ k) (caK K)) (cdv : Value) (A : Around) (outer : List Env) (s : Shared) (H : Hp) (E : XK) (hr : Room k (A.deeper (envOfC "_law_same" (defScope s__law_same) s.heap.objs.size f cdv))) (hgd : A.guards = some []) :
    Iv.SSx ⟨Iv.runF Γ k, fun cls d _ H => E cls d H, caK K⟩ (cxOf (L2.CX P w) P w K mg base ["_law_found", "_law_due", "_law_a", "_law_b"] "_law_same" (defScope s__law_same) f cdv A outer s H E) [] s__law_same_2 b__law_same_2 := by
  have nd := sc__law_same.nd
  have hu := hr.units
  have hv := units65 hr
  have hg : (A.deeper (envOfC "_law_same" (defScope s__law_same) s.heap.objs.size f cdv)).guards = some [] := hgd
  have tk : Takes (cxOf (L2.CX P w) P w K mg base ["_law_found", "_law_due", "_law_a", "_law_b"] "_law_same" (defScope s__law_same) f cdv A outer s H E) (fun cls d _ H => E cls d H) := takes_of rfl rfl rfl rfl
  have po : PassesOwn (model P w) (A.deeper (envOfC "_law_same" (defScope s__law_same) s.heap.objs.size f cdv)) (envOfC "_law_same" (defScope s__law_same) s.heap.objs.size f cdv) (cxOf (L2.CX P w) P w K mg base ["_law_found", "_law_due", "_law_a", "_law_b"] "_law_same" (defScope s__law_same) f cdv A outer s H E).xe := passes_of (X := (cxOf (L2.CX P w) P w K mg base ["_law_found", "_law_due", "_law_a", "_law_b"] "_law_same" (defScope s__law_same) f cdv A outer s H E)) rfl
  exact ⟨ss_ret (sx_and (sx_isi1 (b_isi (by rfl) T.m_isinstance) (t_int (by rfl) T.m_int) (sx_var (pv 0)) rfl) ((sx_and (sx_not (sx_isi1 (b_isi (by rfl) T.m_isinstance) (t_bool (by rfl) T.m_bool) (sx_var (pv 0)) rfl)) (sx_one (sx_cm (sx_var (pv 0)) (sx_var (pv 1)) rfl hv rfl).se)).se)) rfl⟩
def b__law_same : Iv.C := .seq b__law_same_0 (.seq b__law_same_1 (b__law_same_2))
theorem d__law_same {P : Program} {w : World} {K : PySem.W.Frag} {mg : Str → Option Value} {base : Heap} {Γ : Str → Option Iv.Fn} {k : Nat} {f : Addr} (T : Txt K mg) (C : AllCO P w K mg base k (Iv.runF Γ k) (caK K)) (cdv : Value) (A : Around) (outer : List Env) (s : Shared) (H : Hp) (E : XK) (hr : Room k (A.deeper (envOfC "_law_same" (defScope s__law_same) s.heap.objs.size f cdv))) (hgd : A.guards = some []) :
    Iv.SBx ⟨Iv.runF Γ k, fun cls d _ H => E cls d H, caK K⟩ (cxOf (L2.CX P w) P w K mg base ["_law_found", "_law_due", "_law_a", "_law_b"] "_law_same" (defScope s__law_same) f cdv A outer s H E) [] (defBody s__law_same) b__law_same := by
  exact sb_all (sb_at (body := defBody s__law_same) (i := 0) (d__law_same_0 T C cdv A outer s H E hr hgd) (sb_at (body := defBody s__law_same) (i := 1) (d__law_same_1 T C cdv A outer s H E hr hgd) (sb_last (body := defBody s__law_same) (i := 2) (d__law_same_2 T C cdv A outer s H E hr hgd) (by decide +kernel) (by kernel_rfl)) (by decide +kernel)) (by decide +kernel))
def f__law_same : Iv.Fn := ⟨["_law_found", "_law_due"], ["_law_found", "_law_due", "_law_a", "_law_b"], [], b__law_same⟩
abbrev s__law_refused : Stmt := topS 22
theorem sc__law_refused : FnScope ["_law_way", "_law_bonds", "_law_tests", "_law_queue", "_law_caught", "error"] ["_law_way", "_law_bonds", "_law_tests", "_law_queue"] (defScope s__law_refused) := ⟨rfl, rfl, rfl, by decide +kernel, rfl, by decide +kernel, by decide +kernel⟩
def b__law_refused : Iv.C := .seq (.set 4 (.c .none)) (.seq (.try_ (.cond (.cm .eq (.var 0) (.c (.int 0))) (.drop (.call "bounds_of" (.cons (.var 1) (.cons (.var 2) (.nil))))) (.drop (.call "verdict" (.cons (.var 1) (.cons (.var 2) (.cons (.var 3) (.nil))))))) ["Contradiction"] ["Contradiction"] 5 4) (.ret (.ite (.cm .is_ (.var 4) (.c .none)) (.c .none) (.att (.var 4) "evidence" ["Contradiction"]))))
theorem d__law_refused {P : Program} {w : World} {K : PySem.W.Frag} {mg : Str → Option Value} {base : Heap} {Γ : Str → Option Iv.Fn} {k : Nat} {f : Addr} (T : Txt K mg) (C : AllCO P w K mg base k (Iv.runF Γ k) (caK K)) (cdv : Value) (A : Around) (outer : List Env) (s : Shared) (H : Hp) (E : XK) (hr : Room k (A.deeper (envOfC "_law_refused" (defScope s__law_refused) s.heap.objs.size f cdv))) (hgd : A.guards = some []) :
    Iv.SBx ⟨Iv.runF Γ k, fun cls d _ H => E cls d H, caK K⟩ (cxOf (L2.CX P w) P w K mg base ["_law_way", "_law_bonds", "_law_tests", "_law_queue", "_law_caught", "error"] "_law_refused" (defScope s__law_refused) f cdv A outer s H E) [] (defBody s__law_refused) b__law_refused := by
  have nd := sc__law_refused.nd
  have hu := hr.units
  have hv := units65 hr
  have hg : (A.deeper (envOfC "_law_refused" (defScope s__law_refused) s.heap.objs.size f cdv)).guards = some [] := hgd
  have tk : Takes (cxOf (L2.CX P w) P w K mg base ["_law_way", "_law_bonds", "_law_tests", "_law_queue", "_law_caught", "error"] "_law_refused" (defScope s__law_refused) f cdv A outer s H E) (fun cls d _ H => E cls d H) := takes_of rfl rfl rfl rfl
  have po : PassesOwn (model P w) (A.deeper (envOfC "_law_refused" (defScope s__law_refused) s.heap.objs.size f cdv)) (envOfC "_law_refused" (defScope s__law_refused) s.heap.objs.size f cdv) (cxOf (L2.CX P w) P w K mg base ["_law_way", "_law_bonds", "_law_tests", "_law_queue", "_law_caught", "error"] "_law_refused" (defScope s__law_refused) f cdv A outer s H E).xe := passes_of (X := (cxOf (L2.CX P w) P w K mg base ["_law_way", "_law_bonds", "_law_tests", "_law_queue", "_law_caught", "error"] "_law_refused" (defScope s__law_refused) f cdv A outer s H E)) rfl
  exact ⟨sb_cons (@ss_set _ _ _ _ _ 4 (WE _ _) (ps_set (i := 4) nd rfl (by first | exact Or.inl rfl | exact Or.inr rfl) pe_we rfl) (sx_none).se) (sb_cons (ss_try (fun _ => rfl) T.e_0 rfl rfl rfl nd rfl rfl (by decide) (.one ⟨by rfl, by decide, Or.inl T.x_Contradiction.gC⟩) tk (fun W pn xe tk po => sb_one (ss_cond (st_cm (sx_var (pv 0)) (sx_int) rfl hv rfl) (sb_one (ss_drop (sx_call ((C.c_bounds_of).call hr hg tk) (by rfl) (by decide) (sa_cons (sx_var (pv 1)) (sa_cons (sx_var (pv 2)) (sa_nil) rfl rfl) rfl rfl) (by rfl) (by rfl)) rfl)) (sb_one (ss_drop (sx_call ((C.c_verdict).call hr hg tk) (by rfl) (by decide) (sa_cons (sx_var (pv 1)) (sa_cons (sx_var (pv 2)) (sa_cons (sx_var (pv 3)) (sa_nil) rfl rfl) rfl rfl) rfl rfl) (by rfl) (by rfl)) rfl)))) (fun _ _ _ => pss_one (ps_set (i := 4) nd rfl (by first | exact Or.inl rfl | exact Or.inr rfl) (pv 5) rfl))) (sb_one (ss_ret (sx_ite (st_cm (sx_var (pv 4)) (sx_none) rfl hv rfl) (sx_none) (sx_att (sx_var (pv 4)) T.a_evidence rfl)) rfl)))⟩
def f__law_refused : Iv.Fn := ⟨["_law_way", "_law_bonds", "_law_tests", "_law_queue"], ["_law_way", "_law_bonds", "_law_tests", "_law_queue", "_law_caught", "error"], [], b__law_refused⟩
abbrev s__law_three_right : Stmt := topS 23
theorem sc__law_three_right : FnScope ["_law_more", "_law_bonds", "_law_tests", "_law_told", "_law_sure", "_law_some", "_law_rest", "_law_ends", "_law_matter"] ["_law_more"] (defScope s__law_three_right) := ⟨rfl, rfl, rfl, by decide +kernel, rfl, by decide +kernel, by decide +kernel⟩
def b__law_three_right_0 : Iv.C := .set 1 (.op .add (.tup (.cons (.tup (.nil)) (.cons (.tup (.cons (.c (.int 0)) (.cons (.c (.int 2)) (.nil)))) (.cons (.tup (.cons (.c (.int 0)) (.cons (.c (.int 1)) (.nil)))) (.nil))))) (.op .mul (.tup (.cons (.tup (.nil)) (.nil))) (.var 0)))
abbrev s__law_three_right_0 : Stmt := (defBody s__law_three_right).getD 0 (.Pass ⟨0, 0, 0, 0⟩)
theorem d__law_three_right_0 {P : Program} {w : World} {K : PySem.W.Frag} {mg : Str → Option Value} {base : Heap} {Γ : Str → Option Iv.Fn} {k : Nat} {f : Addr} (T : Txt K mg) (C : AllCO P w K mg base k (Iv.runF Γ k) (caK K)) (cdv : Value) (A : Around) (outer : List Env) (s : Shared) (H : Hp) (E : XK) (hr : Room k (A.deeper (envOfC "_law_three_right" (defScope s__law_three_right) s.heap.objs.size f cdv))) (hgd : A.guards = some []) :
    Iv.SSx ⟨Iv.runF Γ k, fun cls d _ H => E cls d H, caK K⟩ (cxOf (L2.CX P w) P w K mg base ["_law_more", "_law_bonds", "_law_tests", "_law_told", "_law_sure", "_law_some", "_law_rest", "_law_ends", "_law_matter"] "_law_three_right" (defScope s__law_three_right) f cdv A outer s H E) [] s__law_three_right_0 b__law_three_right_0 := by
  have nd := sc__law_three_right.nd
  have hu := hr.units
  have hv := units65 hr
  have hg : (A.deeper (envOfC "_law_three_right" (defScope s__law_three_right) s.heap.objs.size f cdv)).guards = some [] := hgd
  have tk : Takes (cxOf (L2.CX P w) P w K mg base ["_law_more", "_law_bonds", "_law_tests", "_law_told", "_law_sure", "_law_some", "_law_rest", "_law_ends", "_law_matter"] "_law_three_right" (defScope s__law_three_right) f cdv A outer s H E) (fun cls d _ H => E cls d H) := takes_of rfl rfl rfl rfl
  have po : PassesOwn (model P w) (A.deeper (envOfC "_law_three_right" (defScope s__law_three_right) s.heap.objs.size f cdv)) (envOfC "_law_three_right" (defScope s__law_three_right) s.heap.objs.size f cdv) (cxOf (L2.CX P w) P w K mg base ["_law_more", "_law_bonds", "_law_tests", "_law_told", "_law_sure", "_law_some", "_law_rest", "_law_ends", "_law_matter"] "_law_three_right" (defScope s__law_three_right) f cdv A outer s H E).xe := passes_of (X := (cxOf (L2.CX P w) P w K mg base ["_law_more", "_law_bonds", "_law_tests", "_law_told", "_law_sure", "_law_some", "_law_rest", "_law_ends", "_law_matter"] "_law_three_right" (defScope s__law_three_right) f cdv A outer s H E)) rfl
  exact ⟨@ss_set _ _ _ _ _ 1 (WE _ _) (ps_set (i := 1) nd rfl (by first | exact Or.inl rfl | exact Or.inr rfl) pe_we rfl) (sx_op (sx_konst (by rfl)) (sx_op (sx_tup (sa_cons (sx_tup (sa_nil)) (sa_nil) rfl rfl)) (sx_var (pv 0)) rfl) rfl).se⟩
def b__law_three_right_1 : Iv.C := .par2 6 7 (.rg true (.c (.int 3)) (.op .add (.c (.int 3)) (.var 0))) (.op .mul (.lst (.cons (.tup (.cons (.c (.int 0)) (.cons (.c .none) (.nil)))) (.nil))) (.var 0))
abbrev s__law_three_right_1 : Stmt := (defBody s__law_three_right).getD 1 (.Pass ⟨0, 0, 0, 0⟩)
theorem d__law_three_right_1 {P : Program} {w : World} {K : PySem.W.Frag} {mg : Str → Option Value} {base : Heap} {Γ : Str → Option Iv.Fn} {k : Nat} {f : Addr} (T : Txt K mg) (C : AllCO P w K mg base k (Iv.runF Γ k) (caK K)) (cdv : Value) (A : Around) (outer : List Env) (s : Shared) (H : Hp) (E : XK) (hr : Room k (A.deeper (envOfC "_law_three_right" (defScope s__law_three_right) s.heap.objs.size f cdv))) (hgd : A.guards = some []) :
    Iv.SSx ⟨Iv.runF Γ k, fun cls d _ H => E cls d H, caK K⟩ (cxOf (L2.CX P w) P w K mg base ["_law_more", "_law_bonds", "_law_tests", "_law_told", "_law_sure", "_law_some", "_law_rest", "_law_ends", "_law_matter"] "_law_three_right" (defScope s__law_three_right) f cdv A outer s H E) [] s__law_three_right_1 b__law_three_right_1 := by
  have nd := sc__law_three_right.nd
  have hu := hr.units
  have hv := units65 hr
  have hg : (A.deeper (envOfC "_law_three_right" (defScope s__law_three_right) s.heap.objs.size f cdv)).guards = some [] := hgd
  have tk : Takes (cxOf (L2.CX P w) P w K mg base ["_law_more", "_law_bonds", "_law_tests", "_law_told", "_law_sure", "_law_some", "_law_rest", "_law_ends", "_law_matter"] "_law_three_right" (defScope s__law_three_right) f cdv A outer s H E) (fun cls d _ H => E cls d H) := takes_of rfl rfl rfl rfl
  have po : PassesOwn (model P w) (A.deeper (envOfC "_law_three_right" (defScope s__law_three_right) s.heap.objs.size f cdv)) (envOfC "_law_three_right" (defScope s__law_three_right) s.heap.objs.size f cdv) (cxOf (L2.CX P w) P w K mg base ["_law_more", "_law_bonds", "_law_tests", "_law_told", "_law_sure", "_law_some", "_law_rest", "_law_ends", "_law_matter"] "_law_three_right" (defScope s__law_three_right) f cdv A outer s H E).xe := passes_of (X := (cxOf (L2.CX P w) P w K mg base ["_law_more", "_law_bonds", "_law_tests", "_law_told", "_law_sure", "_law_some", "_law_rest", "_law_ends", "_law_matter"] "_law_three_right" (defScope s__law_three_right) f cdv A outer s H E)) rfl
  exact ⟨ss_par2 (ps_par rfl nd rfl rfl (by decide) rfl rfl (pa_cons pe_we (pa_cons pe_we pa_nil rfl) rfl) rfl) (by decide) (sx_trg2 rfl (by rfl) T.m_tuple (by rfl) T.m_range (sx_int) (sx_op (sx_int) (sx_var (pv 0)) rfl) (prg_2 (by rfl) T.m_range pe_we pe_we) rfl) (sx_op (sx_lst (sa_cons (sx_tup (sa_cons (sx_int) (sa_cons (sx_none) (sa_nil) rfl rfl) rfl rfl)) (sa_nil) rfl rfl)) (sx_var (pv 0)) rfl)⟩
def b__law_three_right_2 : Iv.C := .set 2 (.lst (.cons (.tup (.cons (.tup (.cons (.c (.int 0)) (.cons (.c (.int 2)) (.cons (.c (.int 1)) (.nil))))) (.cons (.c .none) (.nil)))) (.cons (.tup (.cons (.tup (.cons (.c (.int 0)) (.nil))) (.cons (.c (.int 1)) (.nil)))) (.nil))))
abbrev s__law_three_right_2 : Stmt := (defBody s__law_three_right).getD 2 (.Pass ⟨0, 0, 0, 0⟩)
theorem d__law_three_right_2 {P : Program} {w : World} {K : PySem.W.Frag} {mg : Str → Option Value} {base : Heap} {Γ : Str → Option Iv.Fn} {k : Nat} {f : Addr} (T : Txt K mg) (C : AllCO P w K mg base k (Iv.runF Γ k) (caK K)) (cdv : Value) (A : Around) (outer : List Env) (s : Shared) (H : Hp) (E : XK) (hr : Room k (A.deeper (envOfC "_law_three_right" (defScope s__law_three_right) s.heap.objs.size f cdv))) (hgd : A.guards = some []) :
    Iv.SSx ⟨Iv.runF Γ k, fun cls d _ H => E cls d H, caK K⟩ (cxOf (L2.CX P w) P w K mg base ["_law_more", "_law_bonds", "_law_tests", "_law_told", "_law_sure", "_law_some", "_law_rest", "_law_ends", "_law_matter"] "_law_three_right" (defScope s__law_three_right) f cdv A outer s H E) [] s__law_three_right_2 b__law_three_right_2 := by
  have nd := sc__law_three_right.nd
  have hu := hr.units
  have hv := units65 hr
  have hg : (A.deeper (envOfC "_law_three_right" (defScope s__law_three_right) s.heap.objs.size f cdv)).guards = some [] := hgd
  have tk : Takes (cxOf (L2.CX P w) P w K mg base ["_law_more", "_law_bonds", "_law_tests", "_law_told", "_law_sure", "_law_some", "_law_rest", "_law_ends", "_law_matter"] "_law_three_right" (defScope s__law_three_right) f cdv A outer s H E) (fun cls d _ H => E cls d H) := takes_of rfl rfl rfl rfl
  have po : PassesOwn (model P w) (A.deeper (envOfC "_law_three_right" (defScope s__law_three_right) s.heap.objs.size f cdv)) (envOfC "_law_three_right" (defScope s__law_three_right) s.heap.objs.size f cdv) (cxOf (L2.CX P w) P w K mg base ["_law_more", "_law_bonds", "_law_tests", "_law_told", "_law_sure", "_law_some", "_law_rest", "_law_ends", "_law_matter"] "_law_three_right" (defScope s__law_three_right) f cdv A outer s H E).xe := passes_of (X := (cxOf (L2.CX P w) P w K mg base ["_law_more", "_law_bonds", "_law_tests", "_law_told", "_law_sure", "_law_some", "_law_rest", "_law_ends", "_law_matter"] "_law_three_right" (defScope s__law_three_right) f cdv A outer s H E)) rfl
  exact ⟨@ss_set _ _ _ _ _ 2 (WE _ _) (ps_set (i := 2) nd rfl (by first | exact Or.inl rfl | exact Or.inr rfl) pe_we rfl) (sx_konst (by rfl)).se⟩
def b__law_three_right_3 : Iv.C := .set 3 (.lst (.cons (.call "bounds_of" (.cons (.var 1) (.cons (.var 2) (.nil)))) (.cons (.call "evidence" (.cons (.var 1) (.cons (.var 2) (.nil)))) (.cons (.call "bounds_of" (.cons (.var 1) (.cons (.lst (.nil)) (.nil)))) (.nil)))))
abbrev s__law_three_right_3 : Stmt := (defBody s__law_three_right).getD 3 (.Pass ⟨0, 0, 0, 0⟩)
theorem d__law_three_right_3 {P : Program} {w : World} {K : PySem.W.Frag} {mg : Str → Option Value} {base : Heap} {Γ : Str → Option Iv.Fn} {k : Nat} {f : Addr} (T : Txt K mg) (C : AllCO P w K mg base k (Iv.runF Γ k) (caK K)) (cdv : Value) (A : Around) (outer : List Env) (s : Shared) (H : Hp) (E : XK) (hr : Room k (A.deeper (envOfC "_law_three_right" (defScope s__law_three_right) s.heap.objs.size f cdv))) (hgd : A.guards = some []) :
    Iv.SSx ⟨Iv.runF Γ k, fun cls d _ H => E cls d H, caK K⟩ (cxOf (L2.CX P w) P w K mg base ["_law_more", "_law_bonds", "_law_tests", "_law_told", "_law_sure", "_law_some", "_law_rest", "_law_ends", "_law_matter"] "_law_three_right" (defScope s__law_three_right) f cdv A outer s H E) [] s__law_three_right_3 b__law_three_right_3 := by
  have nd := sc__law_three_right.nd
  have hu := hr.units
  have hv := units65 hr
  have hg : (A.deeper (envOfC "_law_three_right" (defScope s__law_three_right) s.heap.objs.size f cdv)).guards = some [] := hgd
  have tk : Takes (cxOf (L2.CX P w) P w K mg base ["_law_more", "_law_bonds", "_law_tests", "_law_told", "_law_sure", "_law_some", "_law_rest", "_law_ends", "_law_matter"] "_law_three_right" (defScope s__law_three_right) f cdv A outer s H E) (fun cls d _ H => E cls d H) := takes_of rfl rfl rfl rfl
  have po : PassesOwn (model P w) (A.deeper (envOfC "_law_three_right" (defScope s__law_three_right) s.heap.objs.size f cdv)) (envOfC "_law_three_right" (defScope s__law_three_right) s.heap.objs.size f cdv) (cxOf (L2.CX P w) P w K mg base ["_law_more", "_law_bonds", "_law_tests", "_law_told", "_law_sure", "_law_some", "_law_rest", "_law_ends", "_law_matter"] "_law_three_right" (defScope s__law_three_right) f cdv A outer s H E).xe := passes_of (X := (cxOf (L2.CX P w) P w K mg base ["_law_more", "_law_bonds", "_law_tests", "_law_told", "_law_sure", "_law_some", "_law_rest", "_law_ends", "_law_matter"] "_law_three_right" (defScope s__law_three_right) f cdv A outer s H E)) rfl
  exact ⟨@ss_set _ _ _ _ _ 3 (WE _ _) (ps_set (i := 3) nd rfl (by first | exact Or.inl rfl | exact Or.inr rfl) pe_we rfl) (sx_lst (sa_cons (sx_call ((C.c_bounds_of).call hr hg tk) (by rfl) (by decide) (sa_cons (sx_var (pv 1)) (sa_cons (sx_var (pv 2)) (sa_nil) rfl rfl) rfl rfl) (by rfl) (by rfl)) (sa_cons (sx_call ((C.c_evidence).call hr hg tk) (by rfl) (by decide) (sa_cons (sx_var (pv 1)) (sa_cons (sx_var (pv 2)) (sa_nil) rfl rfl) rfl rfl) (by rfl) (by rfl)) (sa_cons (sx_call ((C.c_bounds_of).call hr hg tk) (by rfl) (by decide) (sa_cons (sx_var (pv 1)) (sa_cons (sx_lst (sa_nil)) (sa_nil) rfl rfl) rfl rfl) (by rfl) (by rfl)) (sa_nil) rfl rfl) rfl rfl) rfl rfl)).se⟩
def b__law_three_right_4 : Iv.C := .cond (.not (.call "_law_same" (.cons (.var 3) (.cons (.lst (.cons (.op .add (.lst (.cons (.tup (.cons (.c (.int 0)) (.cons (.c (.int 0)) (.nil)))) (.cons (.tup (.cons (.c (.int 2)) (.cons (.c (.int 2)) (.nil)))) (.cons (.tup (.cons (.c (.int 0)) (.cons (.c (.int 1)) (.nil)))) (.nil))))) (.var 7)) (.cons (.c .none) (.cons (.op .mul (.lst (.cons (.tup (.cons (.c (.int 0)) (.cons (.c .none) (.nil)))) (.nil))) (.b1 .len (.var 1))) (.nil))))) (.nil))))) (.ret (.c (.bool false))) (.skip)
abbrev s__law_three_right_4 : Stmt := (defBody s__law_three_right).getD 4 (.Pass ⟨0, 0, 0, 0⟩)
theorem d__law_three_right_4 {P : Program} {w : World} {K : PySem.W.Frag} {mg : Str → Option Value} {base : Heap} {Γ : Str → Option Iv.Fn} {k : Nat} {f : Addr} (T : Txt K mg) (C : AllCO P w K mg base k (Iv.runF Γ k) (caK K)) (cdv : Value) (A : Around) (outer : List Env) (s : Shared) (H : Hp) (E : XK) (hr : Room k (A.deeper (envOfC "_law_three_right" (defScope s__law_three_right) s.heap.objs.size f cdv))) (hgd : A.guards = some []) :
    Iv.SSx ⟨Iv.runF Γ k, fun cls d _ H => E cls d H, caK K⟩ (cxOf (L2.CX P w) P w K mg base ["_law_more", "_law_bonds", "_law_tests", "_law_told", "_law_sure", "_law_some", "_law_rest", "_law_ends", "_law_matter"] "_law_three_right" (defScope s__law_three_right) f cdv A outer s H E) [] s__law_three_right_4 b__law_three_right_4 := by
  have nd := sc__law_three_right.nd
  have hu := hr.units
  have hv := units65 hr
  have hg : (A.deeper (envOfC "_law_three_right" (defScope s__law_three_right) s.heap.objs.size f cdv)).guards = some [] := hgd
  have tk : Takes (cxOf (L2.CX P w) P w K mg base ["_law_more", "_law_bonds", "_law_tests", "_law_told", "_law_sure", "_law_some", "_law_rest", "_law_ends", "_law_matter"] "_law_three_right" (defScope s__law_three_right) f cdv A outer s H E) (fun cls d _ H => E cls d H) := takes_of rfl rfl rfl rfl
  have po : PassesOwn (model P w) (A.deeper (envOfC "_law_three_right" (defScope s__law_three_right) s.heap.objs.size f cdv)) (envOfC "_law_three_right" (defScope s__law_three_right) s.heap.objs.size f cdv) (cxOf (L2.CX P w) P w K mg base ["_law_more", "_law_bonds", "_law_tests", "_law_told", "_law_sure", "_law_some", "_law_rest", "_law_ends", "_law_matter"] "_law_three_right" (defScope s__law_three_right) f cdv A outer s H E).xe := passes_of (X := (cxOf (L2.CX P w) P w K mg base ["_law_more", "_law_bonds", "_law_tests", "_law_told", "_law_sure", "_law_some", "_law_rest", "_law_ends", "_law_matter"] "_law_three_right" (defScope s__law_three_right) f cdv A outer s H E)) rfl
  exact ⟨ss_cond (su_not (st_val (sx_call ((C.c__law_same).call hr hg tk) (by rfl) (by decide) (sa_cons (sx_var (pv 3)) (sa_cons (sx_lst (sa_cons (sx_op (sx_konst (by rfl)) (sx_var (pv 7)) rfl) (sa_cons (sx_none) (sa_cons (sx_op (sx_lst (sa_cons (sx_tup (sa_cons (sx_int) (sa_cons (sx_none) (sa_nil) rfl rfl) rfl rfl)) (sa_nil) rfl rfl)) (sx_b1 (k := .len) (b_len (by rfl) T.m_len) (sx_var (pv 1)) rfl hg hu rfl) rfl) (sa_nil) rfl rfl) rfl rfl) rfl rfl)) (sa_nil) rfl rfl) rfl rfl) (by rfl) (by rfl)) (by intro _; rfl))) (sb_one (ss_ret (sx_bool) rfl)) (sb_nil)⟩
def b__law_three_right_5 : Iv.C := .set 3 (.lst (.cons (.call "verdict" (.cons (.var 1) (.cons (.var 2) (.cons (.op .add (.tup (.cons (.c (.int 0)) (.cons (.c (.int 2)) (.cons (.c (.int 1)) (.nil))))) (.var 6)) (.nil))))) (.cons (.call "verdict" (.cons (.var 1) (.cons (.var 2) (.cons (.op .add (.tup (.cons (.c (.int 0)) (.cons (.c (.int 1)) (.cons (.c (.int 2)) (.nil))))) (.var 6)) (.nil))))) (.nil))))
abbrev s__law_three_right_5 : Stmt := (defBody s__law_three_right).getD 5 (.Pass ⟨0, 0, 0, 0⟩)
theorem d__law_three_right_5 {P : Program} {w : World} {K : PySem.W.Frag} {mg : Str → Option Value} {base : Heap} {Γ : Str → Option Iv.Fn} {k : Nat} {f : Addr} (T : Txt K mg) (C : AllCO P w K mg base k (Iv.runF Γ k) (caK K)) (cdv : Value) (A : Around) (outer : List Env) (s : Shared) (H : Hp) (E : XK) (hr : Room k (A.deeper (envOfC "_law_three_right" (defScope s__law_three_right) s.heap.objs.size f cdv))) (hgd : A.guards = some []) :
    Iv.SSx ⟨Iv.runF Γ k, fun cls d _ H => E cls d H, caK K⟩ (cxOf (L2.CX P w) P w K mg base ["_law_more", "_law_bonds", "_law_tests", "_law_told", "_law_sure", "_law_some", "_law_rest", "_law_ends", "_law_matter"] "_law_three_right" (defScope s__law_three_right) f cdv A outer s H E) [] s__law_three_right_5 b__law_three_right_5 := by
  have nd := sc__law_three_right.nd
  have hu := hr.units
  have hv := units65 hr
  have hg : (A.deeper (envOfC "_law_three_right" (defScope s__law_three_right) s.heap.objs.size f cdv)).guards = some [] := hgd
  have tk : Takes (cxOf (L2.CX P w) P w K mg base ["_law_more", "_law_bonds", "_law_tests", "_law_told", "_law_sure", "_law_some", "_law_rest", "_law_ends", "_law_matter"] "_law_three_right" (defScope s__law_three_right) f cdv A outer s H E) (fun cls d _ H => E cls d H) := takes_of rfl rfl rfl rfl
  have po : PassesOwn (model P w) (A.deeper (envOfC "_law_three_right" (defScope s__law_three_right) s.heap.objs.size f cdv)) (envOfC "_law_three_right" (defScope s__law_three_right) s.heap.objs.size f cdv) (cxOf (L2.CX P w) P w K mg base ["_law_more", "_law_bonds", "_law_tests", "_law_told", "_law_sure", "_law_some", "_law_rest", "_law_ends", "_law_matter"] "_law_three_right" (defScope s__law_three_right) f cdv A outer s H E).xe := passes_of (X := (cxOf (L2.CX P w) P w K mg base ["_law_more", "_law_bonds", "_law_tests", "_law_told", "_law_sure", "_law_some", "_law_rest", "_law_ends", "_law_matter"] "_law_three_right" (defScope s__law_three_right) f cdv A outer s H E)) rfl
  exact ⟨@ss_set _ _ _ _ _ 3 (WE _ _) (ps_set (i := 3) nd rfl (by first | exact Or.inl rfl | exact Or.inr rfl) pe_we rfl) (sx_lst (sa_cons (sx_call ((C.c_verdict).call hr hg tk) (by rfl) (by decide) (sa_cons (sx_var (pv 1)) (sa_cons (sx_var (pv 2)) (sa_cons (sx_op (sx_konst (by rfl)) (sx_var (pv 6)) rfl) (sa_nil) rfl rfl) rfl rfl) rfl rfl) (by rfl) (by rfl)) (sa_cons (sx_call ((C.c_verdict).call hr hg tk) (by rfl) (by decide) (sa_cons (sx_var (pv 1)) (sa_cons (sx_var (pv 2)) (sa_cons (sx_op (sx_konst (by rfl)) (sx_var (pv 6)) rfl) (sa_nil) rfl rfl) rfl rfl) rfl rfl) (by rfl) (by rfl)) (sa_nil) rfl rfl) rfl rfl)).se⟩
def b__law_three_right_6 : Iv.C := .app 3 (.call "verdict" (.cons (.var 1) (.cons (.var 2) (.cons (.op .add (.tup (.cons (.c (.int 2)) (.cons (.c (.int 0)) (.cons (.c (.int 1)) (.nil))))) (.var 6)) (.nil)))))
abbrev s__law_three_right_6 : Stmt := (defBody s__law_three_right).getD 6 (.Pass ⟨0, 0, 0, 0⟩)
theorem d__law_three_right_6 {P : Program} {w : World} {K : PySem.W.Frag} {mg : Str → Option Value} {base : Heap} {Γ : Str → Option Iv.Fn} {k : Nat} {f : Addr} (T : Txt K mg) (C : AllCO P w K mg base k (Iv.runF Γ k) (caK K)) (cdv : Value) (A : Around) (outer : List Env) (s : Shared) (H : Hp) (E : XK) (hr : Room k (A.deeper (envOfC "_law_three_right" (defScope s__law_three_right) s.heap.objs.size f cdv))) (hgd : A.guards = some []) :
    Iv.SSx ⟨Iv.runF Γ k, fun cls d _ H => E cls d H, caK K⟩ (cxOf (L2.CX P w) P w K mg base ["_law_more", "_law_bonds", "_law_tests", "_law_told", "_law_sure", "_law_some", "_law_rest", "_law_ends", "_law_matter"] "_law_three_right" (defScope s__law_three_right) f cdv A outer s H E) [] s__law_three_right_6 b__law_three_right_6 := by
  have nd := sc__law_three_right.nd
  have hu := hr.units
  have hv := units65 hr
  have hg : (A.deeper (envOfC "_law_three_right" (defScope s__law_three_right) s.heap.objs.size f cdv)).guards = some [] := hgd
  have tk : Takes (cxOf (L2.CX P w) P w K mg base ["_law_more", "_law_bonds", "_law_tests", "_law_told", "_law_sure", "_law_some", "_law_rest", "_law_ends", "_law_matter"] "_law_three_right" (defScope s__law_three_right) f cdv A outer s H E) (fun cls d _ H => E cls d H) := takes_of rfl rfl rfl rfl
  have po : PassesOwn (model P w) (A.deeper (envOfC "_law_three_right" (defScope s__law_three_right) s.heap.objs.size f cdv)) (envOfC "_law_three_right" (defScope s__law_three_right) s.heap.objs.size f cdv) (cxOf (L2.CX P w) P w K mg base ["_law_more", "_law_bonds", "_law_tests", "_law_told", "_law_sure", "_law_some", "_law_rest", "_law_ends", "_law_matter"] "_law_three_right" (defScope s__law_three_right) f cdv A outer s H E).xe := passes_of (X := (cxOf (L2.CX P w) P w K mg base ["_law_more", "_law_bonds", "_law_tests", "_law_told", "_law_sure", "_law_some", "_law_rest", "_law_ends", "_law_matter"] "_law_three_right" (defScope s__law_three_right) f cdv A outer s H E)) rfl
  exact ⟨ss_app (sx_call ((C.c_verdict).call hr hg tk) (by rfl) (by decide) (sa_cons (sx_var (pv 1)) (sa_cons (sx_var (pv 2)) (sa_cons (sx_op (sx_konst (by rfl)) (sx_var (pv 6)) rfl) (sa_nil) rfl rfl) rfl rfl) rfl rfl) (by rfl) (by rfl)) rfl (pe_bm PySem.F.plainAttrs_list PySem.F.slot_list_append PySem.F.type_list_append mt_append (pv 3) (pa_cons pe_we pa_nil rfl))⟩
def b__law_three_right_7 : Iv.C := .set 4 (.ite (.cm .eq (.var 0) (.c (.int 0))) (.c (.str "yes")) (.c (.str "open")))
abbrev s__law_three_right_7 : Stmt := (defBody s__law_three_right).getD 7 (.Pass ⟨0, 0, 0, 0⟩)
theorem d__law_three_right_7 {P : Program} {w : World} {K : PySem.W.Frag} {mg : Str → Option Value} {base : Heap} {Γ : Str → Option Iv.Fn} {k : Nat} {f : Addr} (T : Txt K mg) (C : AllCO P w K mg base k (Iv.runF Γ k) (caK K)) (cdv : Value) (A : Around) (outer : List Env) (s : Shared) (H : Hp) (E : XK) (hr : Room k (A.deeper (envOfC "_law_three_right" (defScope s__law_three_right) s.heap.objs.size f cdv))) (hgd : A.guards = some []) :
    Iv.SSx ⟨Iv.runF Γ k, fun cls d _ H => E cls d H, caK K⟩ (cxOf (L2.CX P w) P w K mg base ["_law_more", "_law_bonds", "_law_tests", "_law_told", "_law_sure", "_law_some", "_law_rest", "_law_ends", "_law_matter"] "_law_three_right" (defScope s__law_three_right) f cdv A outer s H E) [] s__law_three_right_7 b__law_three_right_7 := by
  have nd := sc__law_three_right.nd
  have hu := hr.units
  have hv := units65 hr
  have hg : (A.deeper (envOfC "_law_three_right" (defScope s__law_three_right) s.heap.objs.size f cdv)).guards = some [] := hgd
  have tk : Takes (cxOf (L2.CX P w) P w K mg base ["_law_more", "_law_bonds", "_law_tests", "_law_told", "_law_sure", "_law_some", "_law_rest", "_law_ends", "_law_matter"] "_law_three_right" (defScope s__law_three_right) f cdv A outer s H E) (fun cls d _ H => E cls d H) := takes_of rfl rfl rfl rfl
  have po : PassesOwn (model P w) (A.deeper (envOfC "_law_three_right" (defScope s__law_three_right) s.heap.objs.size f cdv)) (envOfC "_law_three_right" (defScope s__law_three_right) s.heap.objs.size f cdv) (cxOf (L2.CX P w) P w K mg base ["_law_more", "_law_bonds", "_law_tests", "_law_told", "_law_sure", "_law_some", "_law_rest", "_law_ends", "_law_matter"] "_law_three_right" (defScope s__law_three_right) f cdv A outer s H E).xe := passes_of (X := (cxOf (L2.CX P w) P w K mg base ["_law_more", "_law_bonds", "_law_tests", "_law_told", "_law_sure", "_law_some", "_law_rest", "_law_ends", "_law_matter"] "_law_three_right" (defScope s__law_three_right) f cdv A outer s H E)) rfl
  exact ⟨@ss_set _ _ _ _ _ 4 (WE _ _) (ps_set (i := 4) nd rfl (by first | exact Or.inl rfl | exact Or.inr rfl) pe_we rfl) (sx_ite (st_cm (sx_var (pv 0)) (sx_int) rfl hv rfl) (sx_str) (sx_str)).se⟩
def b__law_three_right_8 : Iv.C := .cond (.not (.call "_law_same" (.cons (.var 3) (.cons (.lst (.cons (.var 4) (.cons (.c (.str "no")) (.cons (.c (.str "open")) (.nil))))) (.nil))))) (.ret (.c (.bool false))) (.skip)
abbrev s__law_three_right_8 : Stmt := (defBody s__law_three_right).getD 8 (.Pass ⟨0, 0, 0, 0⟩)
theorem d__law_three_right_8 {P : Program} {w : World} {K : PySem.W.Frag} {mg : Str → Option Value} {base : Heap} {Γ : Str → Option Iv.Fn} {k : Nat} {f : Addr} (T : Txt K mg) (C : AllCO P w K mg base k (Iv.runF Γ k) (caK K)) (cdv : Value) (A : Around) (outer : List Env) (s : Shared) (H : Hp) (E : XK) (hr : Room k (A.deeper (envOfC "_law_three_right" (defScope s__law_three_right) s.heap.objs.size f cdv))) (hgd : A.guards = some []) :
    Iv.SSx ⟨Iv.runF Γ k, fun cls d _ H => E cls d H, caK K⟩ (cxOf (L2.CX P w) P w K mg base ["_law_more", "_law_bonds", "_law_tests", "_law_told", "_law_sure", "_law_some", "_law_rest", "_law_ends", "_law_matter"] "_law_three_right" (defScope s__law_three_right) f cdv A outer s H E) [] s__law_three_right_8 b__law_three_right_8 := by
  have nd := sc__law_three_right.nd
  have hu := hr.units
  have hv := units65 hr
  have hg : (A.deeper (envOfC "_law_three_right" (defScope s__law_three_right) s.heap.objs.size f cdv)).guards = some [] := hgd
  have tk : Takes (cxOf (L2.CX P w) P w K mg base ["_law_more", "_law_bonds", "_law_tests", "_law_told", "_law_sure", "_law_some", "_law_rest", "_law_ends", "_law_matter"] "_law_three_right" (defScope s__law_three_right) f cdv A outer s H E) (fun cls d _ H => E cls d H) := takes_of rfl rfl rfl rfl
  have po : PassesOwn (model P w) (A.deeper (envOfC "_law_three_right" (defScope s__law_three_right) s.heap.objs.size f cdv)) (envOfC "_law_three_right" (defScope s__law_three_right) s.heap.objs.size f cdv) (cxOf (L2.CX P w) P w K mg base ["_law_more", "_law_bonds", "_law_tests", "_law_told", "_law_sure", "_law_some", "_law_rest", "_law_ends", "_law_matter"] "_law_three_right" (defScope s__law_three_right) f cdv A outer s H E).xe := passes_of (X := (cxOf (L2.CX P w) P w K mg base ["_law_more", "_law_bonds", "_law_tests", "_law_told", "_law_sure", "_law_some", "_law_rest", "_law_ends", "_law_matter"] "_law_three_right" (defScope s__law_three_right) f cdv A outer s H E)) rfl
  exact ⟨ss_cond (su_not (st_val (sx_call ((C.c__law_same).call hr hg tk) (by rfl) (by decide) (sa_cons (sx_var (pv 3)) (sa_cons (sx_lst (sa_cons (sx_var (pv 4)) (sa_cons (sx_str) (sa_cons (sx_str) (sa_nil) rfl rfl) rfl rfl) rfl rfl)) (sa_nil) rfl rfl) rfl rfl) (by rfl) (by rfl)) (by intro _; rfl))) (sb_one (ss_ret (sx_bool) rfl)) (sb_nil)⟩
def b__law_three_right_9 : Iv.C := .set 3 (.comp .seq (.cons (.tup (.cons (.tup (.cons (.c (.int 0)) (.cons (.c (.int 2)) (.cons (.c (.int 0)) (.nil))))) (.cons (.tup (.cons (.c (.int 0)) (.cons (.c (.int 2)) (.cons (.c (.int 1)) (.nil))))) (.cons (.tup (.cons (.c (.int 0)) (.cons (.c (.int 2)) (.cons (.c (.int 2)) (.nil))))) (.cons (.tup (.cons (.c (.int 0)) (.cons (.c (.int 1)) (.cons (.c (.int 1)) (.nil))))) (.cons (.tup (.cons (.c (.int 1)) (.cons (.c (.int 2)) (.cons (.c (.int 1)) (.nil))))) (.nil))))))) .nil) (.name 5) (.c (.bool true)) (.call "agree" (.cons (.var 1) (.cons (.var 2) (.cons (.op .add (.var 5) (.op .mul (.tup (.cons (.c (.int 5)) (.nil))) (.var 0))) (.nil))))))
abbrev s__law_three_right_9 : Stmt := (defBody s__law_three_right).getD 9 (.Pass ⟨0, 0, 0, 0⟩)
theorem d__law_three_right_9 {P : Program} {w : World} {K : PySem.W.Frag} {mg : Str → Option Value} {base : Heap} {Γ : Str → Option Iv.Fn} {k : Nat} {f : Addr} (T : Txt K mg) (C : AllCO P w K mg base k (Iv.runF Γ k) (caK K)) (cdv : Value) (A : Around) (outer : List Env) (s : Shared) (H : Hp) (E : XK) (hr : Room k (A.deeper (envOfC "_law_three_right" (defScope s__law_three_right) s.heap.objs.size f cdv))) (hgd : A.guards = some []) :
    Iv.SSx ⟨Iv.runF Γ k, fun cls d _ H => E cls d H, caK K⟩ (cxOf (L2.CX P w) P w K mg base ["_law_more", "_law_bonds", "_law_tests", "_law_told", "_law_sure", "_law_some", "_law_rest", "_law_ends", "_law_matter"] "_law_three_right" (defScope s__law_three_right) f cdv A outer s H E) [] s__law_three_right_9 b__law_three_right_9 := by
  have nd := sc__law_three_right.nd
  have hu := hr.units
  have hv := units65 hr
  have hg : (A.deeper (envOfC "_law_three_right" (defScope s__law_three_right) s.heap.objs.size f cdv)).guards = some [] := hgd
  have tk : Takes (cxOf (L2.CX P w) P w K mg base ["_law_more", "_law_bonds", "_law_tests", "_law_told", "_law_sure", "_law_some", "_law_rest", "_law_ends", "_law_matter"] "_law_three_right" (defScope s__law_three_right) f cdv A outer s H E) (fun cls d _ H => E cls d H) := takes_of rfl rfl rfl rfl
  have po : PassesOwn (model P w) (A.deeper (envOfC "_law_three_right" (defScope s__law_three_right) s.heap.objs.size f cdv)) (envOfC "_law_three_right" (defScope s__law_three_right) s.heap.objs.size f cdv) (cxOf (L2.CX P w) P w K mg base ["_law_more", "_law_bonds", "_law_tests", "_law_told", "_law_sure", "_law_some", "_law_rest", "_law_ends", "_law_matter"] "_law_three_right" (defScope s__law_three_right) f cdv A outer s H E).xe := passes_of (X := (cxOf (L2.CX P w) P w K mg base ["_law_more", "_law_bonds", "_law_tests", "_law_told", "_law_sure", "_law_some", "_law_rest", "_law_ends", "_law_matter"] "_law_three_right" (defScope s__law_three_right) f cdv A outer s H E)) rfl
  exact ⟨by refine ss_setLc (i := 3) (own := [("_law_some", 5)]) ?a ?b ?c ?d ?sw ?blk ?e ?src ?tg ?t ?elt ?hs; (case a => exact rfl); (case b => exact nd); (case c => exact rfl); (case d => exact rfl); (case sw => exact (sw_true rfl rfl rfl (by decide +kernel))); (case blk => exact (by exact blkOk_by (N := ["_law_more", "_law_bonds", "_law_tests", "_law_told", "_law_sure", "_law_some", "_law_rest", "_law_ends", "_law_matter"]) (sc := (defScope s__law_three_right)) (by decide +kernel))); (case e => exact rfl); (case src => exact (by exact @si_seq _ _ _ _ _ (sx_konst (by kernel_rfl)) (by rfl))); (case tg => exact (fun _ _ _ _ _ => sg_name nd rfl (by first | exact Or.inl rfl | exact Or.inr rfl) (by first | exact Or.inl rfl | exact Or.inr rfl))); (case t => exact (fun _ _ _ _ _ => sts_nil)); (case elt => exact (fun _ _ _ _ _ => sx_call ((C.c_agree).call hr hg takes0) (by rfl) (by decide) (sa_cons (sx_var (pv 1)) (sa_cons (sx_var (pv 2)) (sa_cons (sx_op (sx_var (pv 5)) (sx_op (sx_tup (sa_cons (sx_int) (sa_nil) rfl rfl)) (sx_var (pv 0)) rfl) rfl) (sa_nil) rfl rfl) rfl rfl) rfl rfl) (by rfl) (by rfl))); (case hs => exact (fun _ => rfl))⟩
def b__law_three_right_10 : Iv.C := .cond (.not (.call "_law_same" (.cons (.var 3) (.cons (.lst (.cons (.c (.bool true)) (.cons (.c (.bool true)) (.cons (.c (.bool false)) (.cons (.c (.bool false)) (.cons (.c (.bool false)) (.nil))))))) (.nil))))) (.ret (.c (.bool false))) (.skip)
abbrev s__law_three_right_10 : Stmt := (defBody s__law_three_right).getD 10 (.Pass ⟨0, 0, 0, 0⟩)
theorem d__law_three_right_10 {P : Program} {w : World} {K : PySem.W.Frag} {mg : Str → Option Value} {base : Heap} {Γ : Str → Option Iv.Fn} {k : Nat} {f : Addr} (T : Txt K mg) (C : AllCO P w K mg base k (Iv.runF Γ k) (caK K)) (cdv : Value) (A : Around) (outer : List Env) (s : Shared) (H : Hp) (E : XK) (hr : Room k (A.deeper (envOfC "_law_three_right" (defScope s__law_three_right) s.heap.objs.size f cdv))) (hgd : A.guards = some []) :
    Iv.SSx ⟨Iv.runF Γ k, fun cls d _ H => E cls d H, caK K⟩ (cxOf (L2.CX P w) P w K mg base ["_law_more", "_law_bonds", "_law_tests", "_law_told", "_law_sure", "_law_some", "_law_rest", "_law_ends", "_law_matter"] "_law_three_right" (defScope s__law_three_right) f cdv A outer s H E) [] s__law_three_right_10 b__law_three_right_10 := by
  have nd := sc__law_three_right.nd
  have hu := hr.units
  have hv := units65 hr
  have hg : (A.deeper (envOfC "_law_three_right" (defScope s__law_three_right) s.heap.objs.size f cdv)).guards = some [] := hgd
  have tk : Takes (cxOf (L2.CX P w) P w K mg base ["_law_more", "_law_bonds", "_law_tests", "_law_told", "_law_sure", "_law_some", "_law_rest", "_law_ends", "_law_matter"] "_law_three_right" (defScope s__law_three_right) f cdv A outer s H E) (fun cls d _ H => E cls d H) := takes_of rfl rfl rfl rfl
  have po : PassesOwn (model P w) (A.deeper (envOfC "_law_three_right" (defScope s__law_three_right) s.heap.objs.size f cdv)) (envOfC "_law_three_right" (defScope s__law_three_right) s.heap.objs.size f cdv) (cxOf (L2.CX P w) P w K mg base ["_law_more", "_law_bonds", "_law_tests", "_law_told", "_law_sure", "_law_some", "_law_rest", "_law_ends", "_law_matter"] "_law_three_right" (defScope s__law_three_right) f cdv A outer s H E).xe := passes_of (X := (cxOf (L2.CX P w) P w K mg base ["_law_more", "_law_bonds", "_law_tests", "_law_told", "_law_sure", "_law_some", "_law_rest", "_law_ends", "_law_matter"] "_law_three_right" (defScope s__law_three_right) f cdv A outer s H E)) rfl
  exact ⟨ss_cond (su_not (st_val (sx_call ((C.c__law_same).call hr hg tk) (by rfl) (by decide) (sa_cons (sx_var (pv 3)) (sa_cons (sx_konst (by rfl)) (sa_nil) rfl rfl) rfl rfl) (by rfl) (by rfl)) (by intro _; rfl))) (sb_one (ss_ret (sx_bool) rfl)) (sb_nil)⟩
def b__law_three_right_11 : Iv.C := .set 2 (.op .add (.var 2) (.lst (.cons (.tup (.cons (.tup (.cons (.c (.int 2)) (.cons (.c (.int 0)) (.nil)))) (.cons (.c (.int 1)) (.nil)))) (.cons (.tup (.cons (.tup (.nil)) (.cons (.c (.int 2)) (.nil)))) (.cons (.tup (.cons (.tup (.cons (.c (.int 2)) (.nil))) (.cons (.c .none) (.nil)))) (.nil))))))
abbrev s__law_three_right_11 : Stmt := (defBody s__law_three_right).getD 11 (.Pass ⟨0, 0, 0, 0⟩)
theorem d__law_three_right_11 {P : Program} {w : World} {K : PySem.W.Frag} {mg : Str → Option Value} {base : Heap} {Γ : Str → Option Iv.Fn} {k : Nat} {f : Addr} (T : Txt K mg) (C : AllCO P w K mg base k (Iv.runF Γ k) (caK K)) (cdv : Value) (A : Around) (outer : List Env) (s : Shared) (H : Hp) (E : XK) (hr : Room k (A.deeper (envOfC "_law_three_right" (defScope s__law_three_right) s.heap.objs.size f cdv))) (hgd : A.guards = some []) :
    Iv.SSx ⟨Iv.runF Γ k, fun cls d _ H => E cls d H, caK K⟩ (cxOf (L2.CX P w) P w K mg base ["_law_more", "_law_bonds", "_law_tests", "_law_told", "_law_sure", "_law_some", "_law_rest", "_law_ends", "_law_matter"] "_law_three_right" (defScope s__law_three_right) f cdv A outer s H E) [] s__law_three_right_11 b__law_three_right_11 := by
  have nd := sc__law_three_right.nd
  have hu := hr.units
  have hv := units65 hr
  have hg : (A.deeper (envOfC "_law_three_right" (defScope s__law_three_right) s.heap.objs.size f cdv)).guards = some [] := hgd
  have tk : Takes (cxOf (L2.CX P w) P w K mg base ["_law_more", "_law_bonds", "_law_tests", "_law_told", "_law_sure", "_law_some", "_law_rest", "_law_ends", "_law_matter"] "_law_three_right" (defScope s__law_three_right) f cdv A outer s H E) (fun cls d _ H => E cls d H) := takes_of rfl rfl rfl rfl
  have po : PassesOwn (model P w) (A.deeper (envOfC "_law_three_right" (defScope s__law_three_right) s.heap.objs.size f cdv)) (envOfC "_law_three_right" (defScope s__law_three_right) s.heap.objs.size f cdv) (cxOf (L2.CX P w) P w K mg base ["_law_more", "_law_bonds", "_law_tests", "_law_told", "_law_sure", "_law_some", "_law_rest", "_law_ends", "_law_matter"] "_law_three_right" (defScope s__law_three_right) f cdv A outer s H E).xe := passes_of (X := (cxOf (L2.CX P w) P w K mg base ["_law_more", "_law_bonds", "_law_tests", "_law_told", "_law_sure", "_law_some", "_law_rest", "_law_ends", "_law_matter"] "_law_three_right" (defScope s__law_three_right) f cdv A outer s H E)) rfl
  exact ⟨@ss_set _ _ _ _ _ 2 (WE _ _) (ps_set (i := 2) nd rfl (by first | exact Or.inl rfl | exact Or.inr rfl) pe_we rfl) (sx_op (sx_var (pv 2)) (sx_konst (by rfl)) rfl).se⟩
def b__law_three_right_12 : Iv.C := .set 3 (.lst (.cons (.call "evidence" (.cons (.var 1) (.cons (.var 2) (.nil)))) (.cons (.call "_law_refused" (.cons (.c (.int 0)) (.cons (.var 1) (.cons (.var 2) (.cons (.tup (.nil)) (.nil)))))) (.cons (.call "_law_refused" (.cons (.c (.int 1)) (.cons (.var 1) (.cons (.var 2) (.cons (.op .add (.tup (.cons (.c (.int 0)) (.cons (.c (.int 1)) (.cons (.c (.int 2)) (.nil))))) (.var 6)) (.nil)))))) (.nil)))))
abbrev s__law_three_right_12 : Stmt := (defBody s__law_three_right).getD 12 (.Pass ⟨0, 0, 0, 0⟩)
theorem d__law_three_right_12 {P : Program} {w : World} {K : PySem.W.Frag} {mg : Str → Option Value} {base : Heap} {Γ : Str → Option Iv.Fn} {k : Nat} {f : Addr} (T : Txt K mg) (C : AllCO P w K mg base k (Iv.runF Γ k) (caK K)) (cdv : Value) (A : Around) (outer : List Env) (s : Shared) (H : Hp) (E : XK) (hr : Room k (A.deeper (envOfC "_law_three_right" (defScope s__law_three_right) s.heap.objs.size f cdv))) (hgd : A.guards = some []) :
    Iv.SSx ⟨Iv.runF Γ k, fun cls d _ H => E cls d H, caK K⟩ (cxOf (L2.CX P w) P w K mg base ["_law_more", "_law_bonds", "_law_tests", "_law_told", "_law_sure", "_law_some", "_law_rest", "_law_ends", "_law_matter"] "_law_three_right" (defScope s__law_three_right) f cdv A outer s H E) [] s__law_three_right_12 b__law_three_right_12 := by
  have nd := sc__law_three_right.nd
  have hu := hr.units
  have hv := units65 hr
  have hg : (A.deeper (envOfC "_law_three_right" (defScope s__law_three_right) s.heap.objs.size f cdv)).guards = some [] := hgd
  have tk : Takes (cxOf (L2.CX P w) P w K mg base ["_law_more", "_law_bonds", "_law_tests", "_law_told", "_law_sure", "_law_some", "_law_rest", "_law_ends", "_law_matter"] "_law_three_right" (defScope s__law_three_right) f cdv A outer s H E) (fun cls d _ H => E cls d H) := takes_of rfl rfl rfl rfl
  have po : PassesOwn (model P w) (A.deeper (envOfC "_law_three_right" (defScope s__law_three_right) s.heap.objs.size f cdv)) (envOfC "_law_three_right" (defScope s__law_three_right) s.heap.objs.size f cdv) (cxOf (L2.CX P w) P w K mg base ["_law_more", "_law_bonds", "_law_tests", "_law_told", "_law_sure", "_law_some", "_law_rest", "_law_ends", "_law_matter"] "_law_three_right" (defScope s__law_three_right) f cdv A outer s H E).xe := passes_of (X := (cxOf (L2.CX P w) P w K mg base ["_law_more", "_law_bonds", "_law_tests", "_law_told", "_law_sure", "_law_some", "_law_rest", "_law_ends", "_law_matter"] "_law_three_right" (defScope s__law_three_right) f cdv A outer s H E)) rfl
  exact ⟨@ss_set _ _ _ _ _ 3 (WE _ _) (ps_set (i := 3) nd rfl (by first | exact Or.inl rfl | exact Or.inr rfl) pe_we rfl) (sx_lst (sa_cons (sx_call ((C.c_evidence).call hr hg tk) (by rfl) (by decide) (sa_cons (sx_var (pv 1)) (sa_cons (sx_var (pv 2)) (sa_nil) rfl rfl) rfl rfl) (by rfl) (by rfl)) (sa_cons (sx_call ((C.c__law_refused).call hr hg tk) (by rfl) (by decide) (sa_cons (sx_int) (sa_cons (sx_var (pv 1)) (sa_cons (sx_var (pv 2)) (sa_cons (sx_tup (sa_nil)) (sa_nil) rfl rfl) rfl rfl) rfl rfl) rfl rfl) (by rfl) (by rfl)) (sa_cons (sx_call ((C.c__law_refused).call hr hg tk) (by rfl) (by decide) (sa_cons (sx_int) (sa_cons (sx_var (pv 1)) (sa_cons (sx_var (pv 2)) (sa_cons (sx_op (sx_konst (by rfl)) (sx_var (pv 6)) rfl) (sa_nil) rfl rfl) rfl rfl) rfl rfl) rfl rfl) (by rfl) (by rfl)) (sa_nil) rfl rfl) rfl rfl) rfl rfl)).se⟩
def b__law_three_right_13 : Iv.C := .cond (.not (.call "_law_same" (.cons (.var 3) (.cons (.op .mul (.lst (.cons (.tup (.cons (.c (.int 1)) (.cons (.c (.int 0)) (.cons (.c (.int 2)) (.nil))))) (.nil))) (.c (.int 3))) (.nil))))) (.ret (.c (.bool false))) (.skip)
abbrev s__law_three_right_13 : Stmt := (defBody s__law_three_right).getD 13 (.Pass ⟨0, 0, 0, 0⟩)
theorem d__law_three_right_13 {P : Program} {w : World} {K : PySem.W.Frag} {mg : Str → Option Value} {base : Heap} {Γ : Str → Option Iv.Fn} {k : Nat} {f : Addr} (T : Txt K mg) (C : AllCO P w K mg base k (Iv.runF Γ k) (caK K)) (cdv : Value) (A : Around) (outer : List Env) (s : Shared) (H : Hp) (E : XK) (hr : Room k (A.deeper (envOfC "_law_three_right" (defScope s__law_three_right) s.heap.objs.size f cdv))) (hgd : A.guards = some []) :
    Iv.SSx ⟨Iv.runF Γ k, fun cls d _ H => E cls d H, caK K⟩ (cxOf (L2.CX P w) P w K mg base ["_law_more", "_law_bonds", "_law_tests", "_law_told", "_law_sure", "_law_some", "_law_rest", "_law_ends", "_law_matter"] "_law_three_right" (defScope s__law_three_right) f cdv A outer s H E) [] s__law_three_right_13 b__law_three_right_13 := by
  have nd := sc__law_three_right.nd
  have hu := hr.units
  have hv := units65 hr
  have hg : (A.deeper (envOfC "_law_three_right" (defScope s__law_three_right) s.heap.objs.size f cdv)).guards = some [] := hgd
  have tk : Takes (cxOf (L2.CX P w) P w K mg base ["_law_more", "_law_bonds", "_law_tests", "_law_told", "_law_sure", "_law_some", "_law_rest", "_law_ends", "_law_matter"] "_law_three_right" (defScope s__law_three_right) f cdv A outer s H E) (fun cls d _ H => E cls d H) := takes_of rfl rfl rfl rfl
  have po : PassesOwn (model P w) (A.deeper (envOfC "_law_three_right" (defScope s__law_three_right) s.heap.objs.size f cdv)) (envOfC "_law_three_right" (defScope s__law_three_right) s.heap.objs.size f cdv) (cxOf (L2.CX P w) P w K mg base ["_law_more", "_law_bonds", "_law_tests", "_law_told", "_law_sure", "_law_some", "_law_rest", "_law_ends", "_law_matter"] "_law_three_right" (defScope s__law_three_right) f cdv A outer s H E).xe := passes_of (X := (cxOf (L2.CX P w) P w K mg base ["_law_more", "_law_bonds", "_law_tests", "_law_told", "_law_sure", "_law_some", "_law_rest", "_law_ends", "_law_matter"] "_law_three_right" (defScope s__law_three_right) f cdv A outer s H E)) rfl
  exact ⟨ss_cond (su_not (st_val (sx_call ((C.c__law_same).call hr hg tk) (by rfl) (by decide) (sa_cons (sx_var (pv 3)) (sa_cons (sx_op (sx_konst (by rfl)) (sx_int) rfl) (sa_nil) rfl rfl) rfl rfl) (by rfl) (by rfl)) (by intro _; rfl))) (sb_one (ss_ret (sx_bool) rfl)) (sb_nil)⟩
def b__law_three_right_14 : Iv.C := .set 5 (.lst (.cons (.tup (.cons (.c (.int 1)) (.cons (.c (.int 0)) (.cons (.c (.int 2)) (.nil))))) (.cons (.tup (.cons (.c (.int 2)) (.cons (.c (.int 2)) (.cons (.c (.int 3)) (.nil))))) (.cons (.tup (.cons (.c (.int 2)) (.cons (.c (.int 4)) (.cons (.c (.int 3)) (.nil))))) (.cons (.tup (.cons (.c (.int 2)) (.cons (.c (.int 0)) (.cons (.c (.int 3)) (.nil))))) (.cons (.tup (.cons (.c (.int 1)) (.cons (.c (.int 0)) (.cons (.c (.int 1)) (.nil))))) (.cons (.tup (.cons (.c (.int 1)) (.cons (.c (.int 2)) (.cons (.c (.int 0)) (.nil))))) (.cons (.tup (.cons (.c (.int 2)) (.cons (.c (.int 3)) (.cons (.c (.int 3)) (.nil))))) (.cons (.tup (.cons (.c (.int 0)) (.cons (.c (.int 0)) (.cons (.c (.int 2)) (.nil))))) (.cons (.lst (.cons (.c (.int 1)) (.cons (.c (.int 0)) (.cons (.c (.int 2)) (.nil))))) (.nil)))))))))))
abbrev s__law_three_right_14 : Stmt := (defBody s__law_three_right).getD 14 (.Pass ⟨0, 0, 0, 0⟩)
theorem d__law_three_right_14 {P : Program} {w : World} {K : PySem.W.Frag} {mg : Str → Option Value} {base : Heap} {Γ : Str → Option Iv.Fn} {k : Nat} {f : Addr} (T : Txt K mg) (C : AllCO P w K mg base k (Iv.runF Γ k) (caK K)) (cdv : Value) (A : Around) (outer : List Env) (s : Shared) (H : Hp) (E : XK) (hr : Room k (A.deeper (envOfC "_law_three_right" (defScope s__law_three_right) s.heap.objs.size f cdv))) (hgd : A.guards = some []) :
    Iv.SSx ⟨Iv.runF Γ k, fun cls d _ H => E cls d H, caK K⟩ (cxOf (L2.CX P w) P w K mg base ["_law_more", "_law_bonds", "_law_tests", "_law_told", "_law_sure", "_law_some", "_law_rest", "_law_ends", "_law_matter"] "_law_three_right" (defScope s__law_three_right) f cdv A outer s H E) [] s__law_three_right_14 b__law_three_right_14 := by
  have nd := sc__law_three_right.nd
  have hu := hr.units
  have hv := units65 hr
  have hg : (A.deeper (envOfC "_law_three_right" (defScope s__law_three_right) s.heap.objs.size f cdv)).guards = some [] := hgd
  have tk : Takes (cxOf (L2.CX P w) P w K mg base ["_law_more", "_law_bonds", "_law_tests", "_law_told", "_law_sure", "_law_some", "_law_rest", "_law_ends", "_law_matter"] "_law_three_right" (defScope s__law_three_right) f cdv A outer s H E) (fun cls d _ H => E cls d H) := takes_of rfl rfl rfl rfl
  have po : PassesOwn (model P w) (A.deeper (envOfC "_law_three_right" (defScope s__law_three_right) s.heap.objs.size f cdv)) (envOfC "_law_three_right" (defScope s__law_three_right) s.heap.objs.size f cdv) (cxOf (L2.CX P w) P w K mg base ["_law_more", "_law_bonds", "_law_tests", "_law_told", "_law_sure", "_law_some", "_law_rest", "_law_ends", "_law_matter"] "_law_three_right" (defScope s__law_three_right) f cdv A outer s H E).xe := passes_of (X := (cxOf (L2.CX P w) P w K mg base ["_law_more", "_law_bonds", "_law_tests", "_law_told", "_law_sure", "_law_some", "_law_rest", "_law_ends", "_law_matter"] "_law_three_right" (defScope s__law_three_right) f cdv A outer s H E)) rfl
  exact ⟨@ss_set _ _ _ _ _ 5 (WE _ _) (ps_set (i := 5) nd rfl (by first | exact Or.inl rfl | exact Or.inr rfl) pe_we rfl) (sx_konst (by rfl)).se⟩
def b__law_three_right_15 : Iv.C := .set 3 (.comp .seq (.cons (.var 5) .nil) (.name 8) (.c (.bool true)) (.call "shows_evidence" (.cons (.var 1) (.cons (.var 2) (.cons (.var 8) (.nil))))))
abbrev s__law_three_right_15 : Stmt := (defBody s__law_three_right).getD 15 (.Pass ⟨0, 0, 0, 0⟩)
theorem d__law_three_right_15 {P : Program} {w : World} {K : PySem.W.Frag} {mg : Str → Option Value} {base : Heap} {Γ : Str → Option Iv.Fn} {k : Nat} {f : Addr} (T : Txt K mg) (C : AllCO P w K mg base k (Iv.runF Γ k) (caK K)) (cdv : Value) (A : Around) (outer : List Env) (s : Shared) (H : Hp) (E : XK) (hr : Room k (A.deeper (envOfC "_law_three_right" (defScope s__law_three_right) s.heap.objs.size f cdv))) (hgd : A.guards = some []) :
    Iv.SSx ⟨Iv.runF Γ k, fun cls d _ H => E cls d H, caK K⟩ (cxOf (L2.CX P w) P w K mg base ["_law_more", "_law_bonds", "_law_tests", "_law_told", "_law_sure", "_law_some", "_law_rest", "_law_ends", "_law_matter"] "_law_three_right" (defScope s__law_three_right) f cdv A outer s H E) [] s__law_three_right_15 b__law_three_right_15 := by
  have nd := sc__law_three_right.nd
  have hu := hr.units
  have hv := units65 hr
  have hg : (A.deeper (envOfC "_law_three_right" (defScope s__law_three_right) s.heap.objs.size f cdv)).guards = some [] := hgd
  have tk : Takes (cxOf (L2.CX P w) P w K mg base ["_law_more", "_law_bonds", "_law_tests", "_law_told", "_law_sure", "_law_some", "_law_rest", "_law_ends", "_law_matter"] "_law_three_right" (defScope s__law_three_right) f cdv A outer s H E) (fun cls d _ H => E cls d H) := takes_of rfl rfl rfl rfl
  have po : PassesOwn (model P w) (A.deeper (envOfC "_law_three_right" (defScope s__law_three_right) s.heap.objs.size f cdv)) (envOfC "_law_three_right" (defScope s__law_three_right) s.heap.objs.size f cdv) (cxOf (L2.CX P w) P w K mg base ["_law_more", "_law_bonds", "_law_tests", "_law_told", "_law_sure", "_law_some", "_law_rest", "_law_ends", "_law_matter"] "_law_three_right" (defScope s__law_three_right) f cdv A outer s H E).xe := passes_of (X := (cxOf (L2.CX P w) P w K mg base ["_law_more", "_law_bonds", "_law_tests", "_law_told", "_law_sure", "_law_some", "_law_rest", "_law_ends", "_law_matter"] "_law_three_right" (defScope s__law_three_right) f cdv A outer s H E)) rfl
  exact ⟨ss_setLc (i := 3) (own := [("_law_matter", 8)]) rfl nd rfl rfl (sw_true rfl rfl rfl (by decide +kernel)) (by exact blkOk_by (N := ["_law_more", "_law_bonds", "_law_tests", "_law_told", "_law_sure", "_law_some", "_law_rest", "_law_ends", "_law_matter"]) (sc := (defScope s__law_three_right)) (by decide +kernel)) rfl (si_seq (sx_var (pv 5)) rfl) (fun _ _ _ _ _ => sg_name nd rfl (by first | exact Or.inl rfl | exact Or.inr rfl) (by first | exact Or.inl rfl | exact Or.inr rfl)) (fun _ _ _ _ _ => sts_nil) (fun _ _ _ _ _ => sx_call ((C.c_shows_evidence).call hr hg takes0) (by rfl) (by decide) (sa_cons (sx_var (pv 1)) (sa_cons (sx_var (pv 2)) (sa_cons (sx_var (pv 8)) (sa_nil) rfl rfl) rfl rfl) rfl rfl) (by rfl) (by rfl)) (fun _ => rfl)⟩
def b__law_three_right_16 : Iv.C := .ret (.call "_law_same" (.cons (.var 3) (.cons (.op .add (.op .mul (.lst (.cons (.c (.bool true)) (.nil))) (.c (.int 3))) (.op .mul (.lst (.cons (.c (.bool false)) (.nil))) (.c (.int 6)))) (.nil))))
abbrev s__law_three_right_16 : Stmt := (defBody s__law_three_right).getD 16 (.Pass ⟨0, 0, 0, 0⟩)
theorem d__law_three_right_16 {P : Program} {w : World} {K : PySem.W.Frag} {mg : Str → Option Value} {base : Heap} {Γ : Str → Option Iv.Fn} {k : Nat} {f : Addr} (T : Txt K mg) (C : AllCO P w K mg base k (Iv.runF Γ k) (caK K)) (cdv : Value) (A : Around) (outer : List Env) (s : Shared) (H : Hp) (E : XK) (hr : Room k (A.deeper (envOfC "_law_three_right" (defScope s__law_three_right) s.heap.objs.size f cdv))) (hgd : A.guards = some []) :
    Iv.SSx ⟨Iv.runF Γ k, fun cls d _ H => E cls d H, caK K⟩ (cxOf (L2.CX P w) P w K mg base ["_law_more", "_law_bonds", "_law_tests", "_law_told", "_law_sure", "_law_some", "_law_rest", "_law_ends", "_law_matter"] "_law_three_right" (defScope s__law_three_right) f cdv A outer s H E) [] s__law_three_right_16 b__law_three_right_16 := by
  have nd := sc__law_three_right.nd
  have hu := hr.units
  have hv := units65 hr
  have hg : (A.deeper (envOfC "_law_three_right" (defScope s__law_three_right) s.heap.objs.size f cdv)).guards = some [] := hgd
  have tk : Takes (cxOf (L2.CX P w) P w K mg base ["_law_more", "_law_bonds", "_law_tests", "_law_told", "_law_sure", "_law_some", "_law_rest", "_law_ends", "_law_matter"] "_law_three_right" (defScope s__law_three_right) f cdv A outer s H E) (fun cls d _ H => E cls d H) := takes_of rfl rfl rfl rfl
  have po : PassesOwn (model P w) (A.deeper (envOfC "_law_three_right" (defScope s__law_three_right) s.heap.objs.size f cdv)) (envOfC "_law_three_right" (defScope s__law_three_right) s.heap.objs.size f cdv) (cxOf (L2.CX P w) P w K mg base ["_law_more", "_law_bonds", "_law_tests", "_law_told", "_law_sure", "_law_some", "_law_rest", "_law_ends", "_law_matter"] "_law_three_right" (defScope s__law_three_right) f cdv A outer s H E).xe := passes_of (X := (cxOf (L2.CX P w) P w K mg base ["_law_more", "_law_bonds", "_law_tests", "_law_told", "_law_sure", "_law_some", "_law_rest", "_law_ends", "_law_matter"] "_law_three_right" (defScope s__law_three_right) f cdv A outer s H E)) rfl
  exact ⟨ss_ret (sx_call ((C.c__law_same).call hr hg tk) (by rfl) (by decide) (sa_cons (sx_var (pv 3)) (sa_cons (sx_op (sx_op (sx_lst (sa_cons (sx_bool) (sa_nil) rfl rfl)) (sx_int) rfl) (sx_op (sx_lst (sa_cons (sx_bool) (sa_nil) rfl rfl)) (sx_int) rfl) rfl) (sa_nil) rfl rfl) rfl rfl) (by rfl) (by rfl)) rfl⟩
def b__law_three_right : Iv.C := .seq b__law_three_right_0 (.seq b__law_three_right_1 (.seq b__law_three_right_2 (.seq b__law_three_right_3 (.seq b__law_three_right_4 (.seq b__law_three_right_5 (.seq b__law_three_right_6 (.seq b__law_three_right_7 (.seq b__law_three_right_8 (.seq b__law_three_right_9 (.seq b__law_three_right_10 (.seq b__law_three_right_11 (.seq b__law_three_right_12 (.seq b__law_three_right_13 (.seq b__law_three_right_14 (.seq b__law_three_right_15 (b__law_three_right_16))))))))))))))))
theorem d__law_three_right {P : Program} {w : World} {K : PySem.W.Frag} {mg : Str → Option Value} {base : Heap} {Γ : Str → Option Iv.Fn} {k : Nat} {f : Addr} (T : Txt K mg) (C : AllCO P w K mg base k (Iv.runF Γ k) (caK K)) (cdv : Value) (A : Around) (outer : List Env) (s : Shared) (H : Hp) (E : XK) (hr : Room k (A.deeper (envOfC "_law_three_right" (defScope s__law_three_right) s.heap.objs.size f cdv))) (hgd : A.guards = some []) :
    Iv.SBx ⟨Iv.runF Γ k, fun cls d _ H => E cls d H, caK K⟩ (cxOf (L2.CX P w) P w K mg base ["_law_more", "_law_bonds", "_law_tests", "_law_told", "_law_sure", "_law_some", "_law_rest", "_law_ends", "_law_matter"] "_law_three_right" (defScope s__law_three_right) f cdv A outer s H E) [] (defBody s__law_three_right) b__law_three_right := by
  exact sb_all (sb_at (body := defBody s__law_three_right) (i := 0) (d__law_three_right_0 T C cdv A outer s H E hr hgd) (sb_at (body := defBody s__law_three_right) (i := 1) (d__law_three_right_1 T C cdv A outer s H E hr hgd) (sb_at (body := defBody s__law_three_right) (i := 2) (d__law_three_right_2 T C cdv A outer s H E hr hgd) (sb_at (body := defBody s__law_three_right) (i := 3) (d__law_three_right_3 T C cdv A outer s H E hr hgd) (sb_at (body := defBody s__law_three_right) (i := 4) (d__law_three_right_4 T C cdv A outer s H E hr hgd) (sb_at (body := defBody s__law_three_right) (i := 5) (d__law_three_right_5 T C cdv A outer s H E hr hgd) (sb_at (body := defBody s__law_three_right) (i := 6) (d__law_three_right_6 T C cdv A outer s H E hr hgd) (sb_at (body := defBody s__law_three_right) (i := 7) (d__law_three_right_7 T C cdv A outer s H E hr hgd) (sb_at (body := defBody s__law_three_right) (i := 8) (d__law_three_right_8 T C cdv A outer s H E hr hgd) (sb_at (body := defBody s__law_three_right) (i := 9) (d__law_three_right_9 T C cdv A outer s H E hr hgd) (sb_at (body := defBody s__law_three_right) (i := 10) (d__law_three_right_10 T C cdv A outer s H E hr hgd) (sb_at (body := defBody s__law_three_right) (i := 11) (d__law_three_right_11 T C cdv A outer s H E hr hgd) (sb_at (body := defBody s__law_three_right) (i := 12) (d__law_three_right_12 T C cdv A outer s H E hr hgd) (sb_at (body := defBody s__law_three_right) (i := 13) (d__law_three_right_13 T C cdv A outer s H E hr hgd) (sb_at (body := defBody s__law_three_right) (i := 14) (d__law_three_right_14 T C cdv A outer s H E hr hgd) (sb_at (body := defBody s__law_three_right) (i := 15) (d__law_three_right_15 T C cdv A outer s H E hr hgd) (sb_last (body := defBody s__law_three_right) (i := 16) (d__law_three_right_16 T C cdv A outer s H E hr hgd) (by decide +kernel) (by kernel_rfl)) (by decide +kernel)) (by decide +kernel)) (by decide +kernel)) (by decide +kernel)) (by decide +kernel)) (by decide +kernel)) (by decide +kernel)) (by decide +kernel)) (by decide +kernel)) (by decide +kernel)) (by decide +kernel)) (by decide +kernel)) (by decide +kernel)) (by decide +kernel)) (by decide +kernel)) (by decide +kernel))
def f__law_three_right : Iv.Fn := ⟨["_law_more"], ["_law_more", "_law_bonds", "_law_tests", "_law_told", "_law_sure", "_law_some", "_law_rest", "_law_ends", "_law_matter"], [], b__law_three_right⟩
abbrev s__law_refusals_right : Stmt := topS 24
theorem sc__law_refusals_right : FnScope ["_law_more", "_law_bonds", "_law_tests", "_law_told", "_law_rest", "_law_worse"] ["_law_more"] (defScope s__law_refusals_right) := ⟨rfl, rfl, rfl, by decide +kernel, rfl, by decide +kernel, by decide +kernel⟩
def b__law_refusals_right_0 : Iv.C := .set 1 (.op .add (.tup (.cons (.tup (.nil)) (.cons (.tup (.nil)) (.cons (.tup (.nil)) (.cons (.tup (.nil)) (.cons (.tup (.cons (.c (.int 0)) (.cons (.c (.int 1)) (.cons (.c (.int 2)) (.cons (.c (.int 3)) (.nil)))))) (.nil))))))) (.op .mul (.tup (.cons (.tup (.nil)) (.nil))) (.var 0)))
abbrev s__law_refusals_right_0 : Stmt := (defBody s__law_refusals_right).getD 0 (.Pass ⟨0, 0, 0, 0⟩)
theorem d__law_refusals_right_0 {P : Program} {w : World} {K : PySem.W.Frag} {mg : Str → Option Value} {base : Heap} {Γ : Str → Option Iv.Fn} {k : Nat} {f : Addr} (T : Txt K mg) (C : AllCO P w K mg base k (Iv.runF Γ k) (caK K)) (cdv : Value) (A : Around) (outer : List Env) (s : Shared) (H : Hp) (E : XK) (hr : Room k (A.deeper (envOfC "_law_refusals_right" (defScope s__law_refusals_right) s.heap.objs.size f cdv))) (hgd : A.guards = some []) :
    Iv.SSx ⟨Iv.runF Γ k, fun cls d _ H => E cls d H, caK K⟩ (cxOf (L2.CX P w) P w K mg base ["_law_more", "_law_bonds", "_law_tests", "_law_told", "_law_rest", "_law_worse"] "_law_refusals_right" (defScope s__law_refusals_right) f cdv A outer s H E) [] s__law_refusals_right_0 b__law_refusals_right_0 := by
  have nd := sc__law_refusals_right.nd
  have hu := hr.units
  have hv := units65 hr
  have hg : (A.deeper (envOfC "_law_refusals_right" (defScope s__law_refusals_right) s.heap.objs.size f cdv)).guards = some [] := hgd
  have tk : Takes (cxOf (L2.CX P w) P w K mg base ["_law_more", "_law_bonds", "_law_tests", "_law_told", "_law_rest", "_law_worse"] "_law_refusals_right" (defScope s__law_refusals_right) f cdv A outer s H E) (fun cls d _ H => E cls d H) := takes_of rfl rfl rfl rfl
  have po : PassesOwn (model P w) (A.deeper (envOfC "_law_refusals_right" (defScope s__law_refusals_right) s.heap.objs.size f cdv)) (envOfC "_law_refusals_right" (defScope s__law_refusals_right) s.heap.objs.size f cdv) (cxOf (L2.CX P w) P w K mg base ["_law_more", "_law_bonds", "_law_tests", "_law_told", "_law_rest", "_law_worse"] "_law_refusals_right" (defScope s__law_refusals_right) f cdv A outer s H E).xe := passes_of (X := (cxOf (L2.CX P w) P w K mg base ["_law_more", "_law_bonds", "_law_tests", "_law_told", "_law_rest", "_law_worse"] "_law_refusals_right" (defScope s__law_refusals_right) f cdv A outer s H E)) rfl
  exact ⟨@ss_set _ _ _ _ _ 1 (WE _ _) (ps_set (i := 1) nd rfl (by first | exact Or.inl rfl | exact Or.inr rfl) pe_we rfl) (sx_op (sx_konst (by rfl)) (sx_op (sx_tup (sa_cons (sx_tup (sa_nil)) (sa_nil) rfl rfl)) (sx_var (pv 0)) rfl) rfl).se⟩
def b__law_refusals_right_1 : Iv.C := .set 2 (.lst (.cons (.tup (.cons (.tup (.cons (.c (.int 1)) (.cons (.c (.int 3)) (.nil)))) (.cons (.c (.int 4)) (.nil)))) (.cons (.tup (.cons (.tup (.cons (.c (.int 2)) (.nil))) (.cons (.c (.int 4)) (.nil)))) (.cons (.tup (.cons (.tup (.cons (.c (.int 0)) (.cons (.c (.int 2)) (.cons (.c (.int 3)) (.cons (.c (.int 4)) (.nil)))))) (.cons (.c .none) (.nil)))) (.nil)))))
abbrev s__law_refusals_right_1 : Stmt := (defBody s__law_refusals_right).getD 1 (.Pass ⟨0, 0, 0, 0⟩)
theorem d__law_refusals_right_1 {P : Program} {w : World} {K : PySem.W.Frag} {mg : Str → Option Value} {base : Heap} {Γ : Str → Option Iv.Fn} {k : Nat} {f : Addr} (T : Txt K mg) (C : AllCO P w K mg base k (Iv.runF Γ k) (caK K)) (cdv : Value) (A : Around) (outer : List Env) (s : Shared) (H : Hp) (E : XK) (hr : Room k (A.deeper (envOfC "_law_refusals_right" (defScope s__law_refusals_right) s.heap.objs.size f cdv))) (hgd : A.guards = some []) :
    Iv.SSx ⟨Iv.runF Γ k, fun cls d _ H => E cls d H, caK K⟩ (cxOf (L2.CX P w) P w K mg base ["_law_more", "_law_bonds", "_law_tests", "_law_told", "_law_rest", "_law_worse"] "_law_refusals_right" (defScope s__law_refusals_right) f cdv A outer s H E) [] s__law_refusals_right_1 b__law_refusals_right_1 := by
  have nd := sc__law_refusals_right.nd
  have hu := hr.units
  have hv := units65 hr
  have hg : (A.deeper (envOfC "_law_refusals_right" (defScope s__law_refusals_right) s.heap.objs.size f cdv)).guards = some [] := hgd
  have tk : Takes (cxOf (L2.CX P w) P w K mg base ["_law_more", "_law_bonds", "_law_tests", "_law_told", "_law_rest", "_law_worse"] "_law_refusals_right" (defScope s__law_refusals_right) f cdv A outer s H E) (fun cls d _ H => E cls d H) := takes_of rfl rfl rfl rfl
  have po : PassesOwn (model P w) (A.deeper (envOfC "_law_refusals_right" (defScope s__law_refusals_right) s.heap.objs.size f cdv)) (envOfC "_law_refusals_right" (defScope s__law_refusals_right) s.heap.objs.size f cdv) (cxOf (L2.CX P w) P w K mg base ["_law_more", "_law_bonds", "_law_tests", "_law_told", "_law_rest", "_law_worse"] "_law_refusals_right" (defScope s__law_refusals_right) f cdv A outer s H E).xe := passes_of (X := (cxOf (L2.CX P w) P w K mg base ["_law_more", "_law_bonds", "_law_tests", "_law_told", "_law_rest", "_law_worse"] "_law_refusals_right" (defScope s__law_refusals_right) f cdv A outer s H E)) rfl
  exact ⟨@ss_set _ _ _ _ _ 2 (WE _ _) (ps_set (i := 2) nd rfl (by first | exact Or.inl rfl | exact Or.inr rfl) pe_we rfl) (sx_konst (by rfl)).se⟩
def b__law_refusals_right_2 : Iv.C := .set 3 (.lst (.cons (.ix (.call "bounds_of" (.cons (.var 1) (.cons (.var 2) (.nil)))) (.c (.int 4))) (.cons (.ix (.call "bounds_of" (.cons (.var 1) (.cons (.sl (.var 2) (.nil) (.c (.int 2))) (.nil)))) (.c (.int 4))) (.cons (.ix (.call "bounds_of" (.cons (.var 1) (.cons (.sl (.var 2) (.c (.int 2)) (.nil)) (.nil)))) (.c (.int 4))) (.nil)))))
abbrev s__law_refusals_right_2 : Stmt := (defBody s__law_refusals_right).getD 2 (.Pass ⟨0, 0, 0, 0⟩)
theorem d__law_refusals_right_2 {P : Program} {w : World} {K : PySem.W.Frag} {mg : Str → Option Value} {base : Heap} {Γ : Str → Option Iv.Fn} {k : Nat} {f : Addr} (T : Txt K mg) (C : AllCO P w K mg base k (Iv.runF Γ k) (caK K)) (cdv : Value) (A : Around) (outer : List Env) (s : Shared) (H : Hp) (E : XK) (hr : Room k (A.deeper (envOfC "_law_refusals_right" (defScope s__law_refusals_right) s.heap.objs.size f cdv))) (hgd : A.guards = some []) :
    Iv.SSx ⟨Iv.runF Γ k, fun cls d _ H => E cls d H, caK K⟩ (cxOf (L2.CX P w) P w K mg base ["_law_more", "_law_bonds", "_law_tests", "_law_told", "_law_rest", "_law_worse"] "_law_refusals_right" (defScope s__law_refusals_right) f cdv A outer s H E) [] s__law_refusals_right_2 b__law_refusals_right_2 := by
  have nd := sc__law_refusals_right.nd
  have hu := hr.units
  have hv := units65 hr
  have hg : (A.deeper (envOfC "_law_refusals_right" (defScope s__law_refusals_right) s.heap.objs.size f cdv)).guards = some [] := hgd
  have tk : Takes (cxOf (L2.CX P w) P w K mg base ["_law_more", "_law_bonds", "_law_tests", "_law_told", "_law_rest", "_law_worse"] "_law_refusals_right" (defScope s__law_refusals_right) f cdv A outer s H E) (fun cls d _ H => E cls d H) := takes_of rfl rfl rfl rfl
  have po : PassesOwn (model P w) (A.deeper (envOfC "_law_refusals_right" (defScope s__law_refusals_right) s.heap.objs.size f cdv)) (envOfC "_law_refusals_right" (defScope s__law_refusals_right) s.heap.objs.size f cdv) (cxOf (L2.CX P w) P w K mg base ["_law_more", "_law_bonds", "_law_tests", "_law_told", "_law_rest", "_law_worse"] "_law_refusals_right" (defScope s__law_refusals_right) f cdv A outer s H E).xe := passes_of (X := (cxOf (L2.CX P w) P w K mg base ["_law_more", "_law_bonds", "_law_tests", "_law_told", "_law_rest", "_law_worse"] "_law_refusals_right" (defScope s__law_refusals_right) f cdv A outer s H E)) rfl
  exact ⟨@ss_set _ _ _ _ _ 3 (WE _ _) (ps_set (i := 3) nd rfl (by first | exact Or.inl rfl | exact Or.inr rfl) pe_we rfl) (sx_lst (sa_cons (sx_ix (sx_call ((C.c_bounds_of).call hr hg tk) (by rfl) (by decide) (sa_cons (sx_var (pv 1)) (sa_cons (sx_var (pv 2)) (sa_nil) rfl rfl) rfl rfl) (by rfl) (by rfl)) (sx_int) (fun _ _ => rfl)) (sa_cons (sx_ix (sx_call ((C.c_bounds_of).call hr hg tk) (by rfl) (by decide) (sa_cons (sx_var (pv 1)) (sa_cons (sx_sl (sx_var (pv 2)) (.no) (.some (sx_int) rfl)) (sa_nil) rfl rfl) rfl rfl) (by rfl) (by rfl)) (sx_int) (fun _ _ => rfl)) (sa_cons (sx_ix (sx_call ((C.c_bounds_of).call hr hg tk) (by rfl) (by decide) (sa_cons (sx_var (pv 1)) (sa_cons (sx_sl (sx_var (pv 2)) (.some (sx_int) rfl) (.no)) (sa_nil) rfl rfl) rfl rfl) (by rfl) (by rfl)) (sx_int) (fun _ _ => rfl)) (sa_nil) rfl rfl) rfl rfl) rfl rfl)).se⟩
def b__law_refusals_right_3 : Iv.C := .set 3 (.op .add (.var 3) (.lst (.cons (.ix (.call "bounds_of" (.cons (.var 1) (.cons (.var 2) (.nil)))) (.c (.int 0))) (.cons (.ix (.call "bounds_of" (.cons (.var 1) (.cons (.var 2) (.nil)))) (.c (.int 1))) (.nil)))))
abbrev s__law_refusals_right_3 : Stmt := (defBody s__law_refusals_right).getD 3 (.Pass ⟨0, 0, 0, 0⟩)
theorem d__law_refusals_right_3 {P : Program} {w : World} {K : PySem.W.Frag} {mg : Str → Option Value} {base : Heap} {Γ : Str → Option Iv.Fn} {k : Nat} {f : Addr} (T : Txt K mg) (C : AllCO P w K mg base k (Iv.runF Γ k) (caK K)) (cdv : Value) (A : Around) (outer : List Env) (s : Shared) (H : Hp) (E : XK) (hr : Room k (A.deeper (envOfC "_law_refusals_right" (defScope s__law_refusals_right) s.heap.objs.size f cdv))) (hgd : A.guards = some []) :
    Iv.SSx ⟨Iv.runF Γ k, fun cls d _ H => E cls d H, caK K⟩ (cxOf (L2.CX P w) P w K mg base ["_law_more", "_law_bonds", "_law_tests", "_law_told", "_law_rest", "_law_worse"] "_law_refusals_right" (defScope s__law_refusals_right) f cdv A outer s H E) [] s__law_refusals_right_3 b__law_refusals_right_3 := by
  have nd := sc__law_refusals_right.nd
  have hu := hr.units
  have hv := units65 hr
  have hg : (A.deeper (envOfC "_law_refusals_right" (defScope s__law_refusals_right) s.heap.objs.size f cdv)).guards = some [] := hgd
  have tk : Takes (cxOf (L2.CX P w) P w K mg base ["_law_more", "_law_bonds", "_law_tests", "_law_told", "_law_rest", "_law_worse"] "_law_refusals_right" (defScope s__law_refusals_right) f cdv A outer s H E) (fun cls d _ H => E cls d H) := takes_of rfl rfl rfl rfl
  have po : PassesOwn (model P w) (A.deeper (envOfC "_law_refusals_right" (defScope s__law_refusals_right) s.heap.objs.size f cdv)) (envOfC "_law_refusals_right" (defScope s__law_refusals_right) s.heap.objs.size f cdv) (cxOf (L2.CX P w) P w K mg base ["_law_more", "_law_bonds", "_law_tests", "_law_told", "_law_rest", "_law_worse"] "_law_refusals_right" (defScope s__law_refusals_right) f cdv A outer s H E).xe := passes_of (X := (cxOf (L2.CX P w) P w K mg base ["_law_more", "_law_bonds", "_law_tests", "_law_told", "_law_rest", "_law_worse"] "_law_refusals_right" (defScope s__law_refusals_right) f cdv A outer s H E)) rfl
  exact ⟨@ss_set _ _ _ _ _ 3 (WE _ _) (ps_set (i := 3) nd rfl (by first | exact Or.inl rfl | exact Or.inr rfl) pe_we rfl) (sx_op (sx_var (pv 3)) (sx_lst (sa_cons (sx_ix (sx_call ((C.c_bounds_of).call hr hg tk) (by rfl) (by decide) (sa_cons (sx_var (pv 1)) (sa_cons (sx_var (pv 2)) (sa_nil) rfl rfl) rfl rfl) (by rfl) (by rfl)) (sx_int) (fun _ _ => rfl)) (sa_cons (sx_ix (sx_call ((C.c_bounds_of).call hr hg tk) (by rfl) (by decide) (sa_cons (sx_var (pv 1)) (sa_cons (sx_var (pv 2)) (sa_nil) rfl rfl) rfl rfl) (by rfl) (by rfl)) (sx_int) (fun _ _ => rfl)) (sa_nil) rfl rfl) rfl rfl)) rfl).se⟩
def b__law_refusals_right_4 : Iv.C := .cond (.not (.call "_law_same" (.cons (.var 3) (.cons (.lst (.cons (.tup (.cons (.c (.int 3)) (.cons (.c (.int 3)) (.nil)))) (.cons (.tup (.cons (.c (.int 3)) (.cons (.c .none) (.nil)))) (.cons (.tup (.cons (.c (.int 0)) (.cons (.c (.int 3)) (.nil)))) (.cons (.tup (.cons (.c (.int 0)) (.cons (.c (.int 0)) (.nil)))) (.cons (.tup (.cons (.c (.int 0)) (.cons (.c (.int 0)) (.nil)))) (.nil))))))) (.nil))))) (.ret (.c (.bool false))) (.skip)
abbrev s__law_refusals_right_4 : Stmt := (defBody s__law_refusals_right).getD 4 (.Pass ⟨0, 0, 0, 0⟩)
theorem d__law_refusals_right_4 {P : Program} {w : World} {K : PySem.W.Frag} {mg : Str → Option Value} {base : Heap} {Γ : Str → Option Iv.Fn} {k : Nat} {f : Addr} (T : Txt K mg) (C : AllCO P w K mg base k (Iv.runF Γ k) (caK K)) (cdv : Value) (A : Around) (outer : List Env) (s : Shared) (H : Hp) (E : XK) (hr : Room k (A.deeper (envOfC "_law_refusals_right" (defScope s__law_refusals_right) s.heap.objs.size f cdv))) (hgd : A.guards = some []) :
    Iv.SSx ⟨Iv.runF Γ k, fun cls d _ H => E cls d H, caK K⟩ (cxOf (L2.CX P w) P w K mg base ["_law_more", "_law_bonds", "_law_tests", "_law_told", "_law_rest", "_law_worse"] "_law_refusals_right" (defScope s__law_refusals_right) f cdv A outer s H E) [] s__law_refusals_right_4 b__law_refusals_right_4 := by
  have nd := sc__law_refusals_right.nd
  have hu := hr.units
  have hv := units65 hr
  have hg : (A.deeper (envOfC "_law_refusals_right" (defScope s__law_refusals_right) s.heap.objs.size f cdv)).guards = some [] := hgd
  have tk : Takes (cxOf (L2.CX P w) P w K mg base ["_law_more", "_law_bonds", "_law_tests", "_law_told", "_law_rest", "_law_worse"] "_law_refusals_right" (defScope s__law_refusals_right) f cdv A outer s H E) (fun cls d _ H => E cls d H) := takes_of rfl rfl rfl rfl
  have po : PassesOwn (model P w) (A.deeper (envOfC "_law_refusals_right" (defScope s__law_refusals_right) s.heap.objs.size f cdv)) (envOfC "_law_refusals_right" (defScope s__law_refusals_right) s.heap.objs.size f cdv) (cxOf (L2.CX P w) P w K mg base ["_law_more", "_law_bonds", "_law_tests", "_law_told", "_law_rest", "_law_worse"] "_law_refusals_right" (defScope s__law_refusals_right) f cdv A outer s H E).xe := passes_of (X := (cxOf (L2.CX P w) P w K mg base ["_law_more", "_law_bonds", "_law_tests", "_law_told", "_law_rest", "_law_worse"] "_law_refusals_right" (defScope s__law_refusals_right) f cdv A outer s H E)) rfl
  exact ⟨ss_cond (su_not (st_val (sx_call ((C.c__law_same).call hr hg tk) (by rfl) (by decide) (sa_cons (sx_var (pv 3)) (sa_cons (sx_konst (by rfl)) (sa_nil) rfl rfl) rfl rfl) (by rfl) (by rfl)) (by intro _; rfl))) (sb_one (ss_ret (sx_bool) rfl)) (sb_nil)⟩
def b__law_refusals_right_5 : Iv.C := .set 4 (.rg true (.c (.int 5)) (.op .add (.c (.int 5)) (.var 0)))
abbrev s__law_refusals_right_5 : Stmt := (defBody s__law_refusals_right).getD 5 (.Pass ⟨0, 0, 0, 0⟩)
theorem d__law_refusals_right_5 {P : Program} {w : World} {K : PySem.W.Frag} {mg : Str → Option Value} {base : Heap} {Γ : Str → Option Iv.Fn} {k : Nat} {f : Addr} (T : Txt K mg) (C : AllCO P w K mg base k (Iv.runF Γ k) (caK K)) (cdv : Value) (A : Around) (outer : List Env) (s : Shared) (H : Hp) (E : XK) (hr : Room k (A.deeper (envOfC "_law_refusals_right" (defScope s__law_refusals_right) s.heap.objs.size f cdv))) (hgd : A.guards = some []) :
    Iv.SSx ⟨Iv.runF Γ k, fun cls d _ H => E cls d H, caK K⟩ (cxOf (L2.CX P w) P w K mg base ["_law_more", "_law_bonds", "_law_tests", "_law_told", "_law_rest", "_law_worse"] "_law_refusals_right" (defScope s__law_refusals_right) f cdv A outer s H E) [] s__law_refusals_right_5 b__law_refusals_right_5 := by
  have nd := sc__law_refusals_right.nd
  have hu := hr.units
  have hv := units65 hr
  have hg : (A.deeper (envOfC "_law_refusals_right" (defScope s__law_refusals_right) s.heap.objs.size f cdv)).guards = some [] := hgd
  have tk : Takes (cxOf (L2.CX P w) P w K mg base ["_law_more", "_law_bonds", "_law_tests", "_law_told", "_law_rest", "_law_worse"] "_law_refusals_right" (defScope s__law_refusals_right) f cdv A outer s H E) (fun cls d _ H => E cls d H) := takes_of rfl rfl rfl rfl
  have po : PassesOwn (model P w) (A.deeper (envOfC "_law_refusals_right" (defScope s__law_refusals_right) s.heap.objs.size f cdv)) (envOfC "_law_refusals_right" (defScope s__law_refusals_right) s.heap.objs.size f cdv) (cxOf (L2.CX P w) P w K mg base ["_law_more", "_law_bonds", "_law_tests", "_law_told", "_law_rest", "_law_worse"] "_law_refusals_right" (defScope s__law_refusals_right) f cdv A outer s H E).xe := passes_of (X := (cxOf (L2.CX P w) P w K mg base ["_law_more", "_law_bonds", "_law_tests", "_law_told", "_law_rest", "_law_worse"] "_law_refusals_right" (defScope s__law_refusals_right) f cdv A outer s H E)) rfl
  exact ⟨@ss_set _ _ _ _ _ 4 (WE _ _) (ps_set (i := 4) nd rfl (by first | exact Or.inl rfl | exact Or.inr rfl) pe_we rfl) (sx_trg2 rfl (by rfl) T.m_tuple (by rfl) T.m_range (sx_int) (sx_op (sx_int) (sx_var (pv 0)) rfl) (prg_2 (by rfl) T.m_range pe_we pe_we) rfl).se⟩
def b__law_refusals_right_6 : Iv.C := .set 3 (.lst (.cons (.call "verdict" (.cons (.var 1) (.cons (.var 2) (.cons (.op .add (.tup (.cons (.c (.int 3)) (.cons (.c (.int 1)) (.cons (.c (.int 4)) (.cons (.c (.int 0)) (.cons (.c (.int 2)) (.nil))))))) (.var 4)) (.nil))))) (.cons (.call "verdict" (.cons (.var 1) (.cons (.sl (.var 2) (.nil) (.c (.int 2))) (.cons (.op .add (.tup (.cons (.c (.int 3)) (.cons (.c (.int 1)) (.cons (.c (.int 0)) (.cons (.c (.int 4)) (.cons (.c (.int 2)) (.nil))))))) (.var 4)) (.nil))))) (.nil))))
abbrev s__law_refusals_right_6 : Stmt := (defBody s__law_refusals_right).getD 6 (.Pass ⟨0, 0, 0, 0⟩)
theorem d__law_refusals_right_6 {P : Program} {w : World} {K : PySem.W.Frag} {mg : Str → Option Value} {base : Heap} {Γ : Str → Option Iv.Fn} {k : Nat} {f : Addr} (T : Txt K mg) (C : AllCO P w K mg base k (Iv.runF Γ k) (caK K)) (cdv : Value) (A : Around) (outer : List Env) (s : Shared) (H : Hp) (E : XK) (hr : Room k (A.deeper (envOfC "_law_refusals_right" (defScope s__law_refusals_right) s.heap.objs.size f cdv))) (hgd : A.guards = some []) :
    Iv.SSx ⟨Iv.runF Γ k, fun cls d _ H => E cls d H, caK K⟩ (cxOf (L2.CX P w) P w K mg base ["_law_more", "_law_bonds", "_law_tests", "_law_told", "_law_rest", "_law_worse"] "_law_refusals_right" (defScope s__law_refusals_right) f cdv A outer s H E) [] s__law_refusals_right_6 b__law_refusals_right_6 := by
  have nd := sc__law_refusals_right.nd
  have hu := hr.units
  have hv := units65 hr
  have hg : (A.deeper (envOfC "_law_refusals_right" (defScope s__law_refusals_right) s.heap.objs.size f cdv)).guards = some [] := hgd
  have tk : Takes (cxOf (L2.CX P w) P w K mg base ["_law_more", "_law_bonds", "_law_tests", "_law_told", "_law_rest", "_law_worse"] "_law_refusals_right" (defScope s__law_refusals_right) f cdv A outer s H E) (fun cls d _ H => E cls d H) := takes_of rfl rfl rfl rfl
  have po : PassesOwn (model P w) (A.deeper (envOfC "_law_refusals_right" (defScope s__law_refusals_right) s.heap.objs.size f cdv)) (envOfC "_law_refusals_right" (defScope s__law_refusals_right) s.heap.objs.size f cdv) (cxOf (L2.CX P w) P w K mg base ["_law_more", "_law_bonds", "_law_tests", "_law_told", "_law_rest", "_law_worse"] "_law_refusals_right" (defScope s__law_refusals_right) f cdv A outer s H E).xe := passes_of (X := (cxOf (L2.CX P w) P w K mg base ["_law_more", "_law_bonds", "_law_tests", "_law_told", "_law_rest", "_law_worse"] "_law_refusals_right" (defScope s__law_refusals_right) f cdv A outer s H E)) rfl
  exact ⟨@ss_set _ _ _ _ _ 3 (WE _ _) (ps_set (i := 3) nd rfl (by first | exact Or.inl rfl | exact Or.inr rfl) pe_we rfl) (sx_lst (sa_cons (sx_call ((C.c_verdict).call hr hg tk) (by rfl) (by decide) (sa_cons (sx_var (pv 1)) (sa_cons (sx_var (pv 2)) (sa_cons (sx_op (sx_konst (by rfl)) (sx_var (pv 4)) rfl) (sa_nil) rfl rfl) rfl rfl) rfl rfl) (by rfl) (by rfl)) (sa_cons (sx_call ((C.c_verdict).call hr hg tk) (by rfl) (by decide) (sa_cons (sx_var (pv 1)) (sa_cons (sx_sl (sx_var (pv 2)) (.no) (.some (sx_int) rfl)) (sa_cons (sx_op (sx_konst (by rfl)) (sx_var (pv 4)) rfl) (sa_nil) rfl rfl) rfl rfl) rfl rfl) (by rfl) (by rfl)) (sa_nil) rfl rfl) rfl rfl)).se⟩
def b__law_refusals_right_7 : Iv.C := .cond (.not (.call "_law_same" (.cons (.var 3) (.cons (.lst (.cons (.c (.str "no")) (.cons (.c (.str "open")) (.nil)))) (.nil))))) (.ret (.c (.bool false))) (.skip)
abbrev s__law_refusals_right_7 : Stmt := (defBody s__law_refusals_right).getD 7 (.Pass ⟨0, 0, 0, 0⟩)
theorem d__law_refusals_right_7 {P : Program} {w : World} {K : PySem.W.Frag} {mg : Str → Option Value} {base : Heap} {Γ : Str → Option Iv.Fn} {k : Nat} {f : Addr} (T : Txt K mg) (C : AllCO P w K mg base k (Iv.runF Γ k) (caK K)) (cdv : Value) (A : Around) (outer : List Env) (s : Shared) (H : Hp) (E : XK) (hr : Room k (A.deeper (envOfC "_law_refusals_right" (defScope s__law_refusals_right) s.heap.objs.size f cdv))) (hgd : A.guards = some []) :
    Iv.SSx ⟨Iv.runF Γ k, fun cls d _ H => E cls d H, caK K⟩ (cxOf (L2.CX P w) P w K mg base ["_law_more", "_law_bonds", "_law_tests", "_law_told", "_law_rest", "_law_worse"] "_law_refusals_right" (defScope s__law_refusals_right) f cdv A outer s H E) [] s__law_refusals_right_7 b__law_refusals_right_7 := by
  have nd := sc__law_refusals_right.nd
  have hu := hr.units
  have hv := units65 hr
  have hg : (A.deeper (envOfC "_law_refusals_right" (defScope s__law_refusals_right) s.heap.objs.size f cdv)).guards = some [] := hgd
  have tk : Takes (cxOf (L2.CX P w) P w K mg base ["_law_more", "_law_bonds", "_law_tests", "_law_told", "_law_rest", "_law_worse"] "_law_refusals_right" (defScope s__law_refusals_right) f cdv A outer s H E) (fun cls d _ H => E cls d H) := takes_of rfl rfl rfl rfl
  have po : PassesOwn (model P w) (A.deeper (envOfC "_law_refusals_right" (defScope s__law_refusals_right) s.heap.objs.size f cdv)) (envOfC "_law_refusals_right" (defScope s__law_refusals_right) s.heap.objs.size f cdv) (cxOf (L2.CX P w) P w K mg base ["_law_more", "_law_bonds", "_law_tests", "_law_told", "_law_rest", "_law_worse"] "_law_refusals_right" (defScope s__law_refusals_right) f cdv A outer s H E).xe := passes_of (X := (cxOf (L2.CX P w) P w K mg base ["_law_more", "_law_bonds", "_law_tests", "_law_told", "_law_rest", "_law_worse"] "_law_refusals_right" (defScope s__law_refusals_right) f cdv A outer s H E)) rfl
  exact ⟨ss_cond (su_not (st_val (sx_call ((C.c__law_same).call hr hg tk) (by rfl) (by decide) (sa_cons (sx_var (pv 3)) (sa_cons (sx_lst (sa_cons (sx_str) (sa_cons (sx_str) (sa_nil) rfl rfl) rfl rfl)) (sa_nil) rfl rfl) rfl rfl) (by rfl) (by rfl)) (by intro _; rfl))) (sb_one (ss_ret (sx_bool) rfl)) (sb_nil)⟩
def b__law_refusals_right_8 : Iv.C := .set 5 (.op .add (.var 2) (.lst (.cons (.tup (.cons (.tup (.cons (.c (.int 0)) (.cons (.c (.int 1)) (.cons (.c (.int 2)) (.nil))))) (.cons (.c (.int 4)) (.nil)))) (.nil))))
abbrev s__law_refusals_right_8 : Stmt := (defBody s__law_refusals_right).getD 8 (.Pass ⟨0, 0, 0, 0⟩)
theorem d__law_refusals_right_8 {P : Program} {w : World} {K : PySem.W.Frag} {mg : Str → Option Value} {base : Heap} {Γ : Str → Option Iv.Fn} {k : Nat} {f : Addr} (T : Txt K mg) (C : AllCO P w K mg base k (Iv.runF Γ k) (caK K)) (cdv : Value) (A : Around) (outer : List Env) (s : Shared) (H : Hp) (E : XK) (hr : Room k (A.deeper (envOfC "_law_refusals_right" (defScope s__law_refusals_right) s.heap.objs.size f cdv))) (hgd : A.guards = some []) :
    Iv.SSx ⟨Iv.runF Γ k, fun cls d _ H => E cls d H, caK K⟩ (cxOf (L2.CX P w) P w K mg base ["_law_more", "_law_bonds", "_law_tests", "_law_told", "_law_rest", "_law_worse"] "_law_refusals_right" (defScope s__law_refusals_right) f cdv A outer s H E) [] s__law_refusals_right_8 b__law_refusals_right_8 := by
  have nd := sc__law_refusals_right.nd
  have hu := hr.units
  have hv := units65 hr
  have hg : (A.deeper (envOfC "_law_refusals_right" (defScope s__law_refusals_right) s.heap.objs.size f cdv)).guards = some [] := hgd
  have tk : Takes (cxOf (L2.CX P w) P w K mg base ["_law_more", "_law_bonds", "_law_tests", "_law_told", "_law_rest", "_law_worse"] "_law_refusals_right" (defScope s__law_refusals_right) f cdv A outer s H E) (fun cls d _ H => E cls d H) := takes_of rfl rfl rfl rfl
  have po : PassesOwn (model P w) (A.deeper (envOfC "_law_refusals_right" (defScope s__law_refusals_right) s.heap.objs.size f cdv)) (envOfC "_law_refusals_right" (defScope s__law_refusals_right) s.heap.objs.size f cdv) (cxOf (L2.CX P w) P w K mg base ["_law_more", "_law_bonds", "_law_tests", "_law_told", "_law_rest", "_law_worse"] "_law_refusals_right" (defScope s__law_refusals_right) f cdv A outer s H E).xe := passes_of (X := (cxOf (L2.CX P w) P w K mg base ["_law_more", "_law_bonds", "_law_tests", "_law_told", "_law_rest", "_law_worse"] "_law_refusals_right" (defScope s__law_refusals_right) f cdv A outer s H E)) rfl
  exact ⟨@ss_set _ _ _ _ _ 5 (WE _ _) (ps_set (i := 5) nd rfl (by first | exact Or.inl rfl | exact Or.inr rfl) pe_we rfl) (sx_op (sx_var (pv 2)) (sx_konst (by rfl)) rfl).se⟩
def b__law_refusals_right_9 : Iv.C := .ret (.call "_law_same" (.cons (.lst (.cons (.call "evidence" (.cons (.var 1) (.cons (.var 5) (.nil)))) (.cons (.call "evidence" (.cons (.var 1) (.cons (.sl (.var 5) (.c (.int 2)) (.nil)) (.nil)))) (.nil)))) (.cons (.lst (.cons (.tup (.cons (.c (.int 4)) (.cons (.c (.int 2)) (.cons (.c (.int 3)) (.nil))))) (.cons (.tup (.cons (.c (.int 4)) (.cons (.c (.int 0)) (.cons (.c (.int 1)) (.nil))))) (.nil)))) (.nil))))
abbrev s__law_refusals_right_9 : Stmt := (defBody s__law_refusals_right).getD 9 (.Pass ⟨0, 0, 0, 0⟩)
theorem d__law_refusals_right_9 {P : Program} {w : World} {K : PySem.W.Frag} {mg : Str → Option Value} {base : Heap} {Γ : Str → Option Iv.Fn} {k : Nat} {f : Addr} (T : Txt K mg) (C : AllCO P w K mg base k (Iv.runF Γ k) (caK K)) (cdv : Value) (A : Around) (outer : List Env) (s : Shared) (H : Hp) (E : XK) (hr : Room k (A.deeper (envOfC "_law_refusals_right" (defScope s__law_refusals_right) s.heap.objs.size f cdv))) (hgd : A.guards = some []) :
    Iv.SSx ⟨Iv.runF Γ k, fun cls d _ H => E cls d H, caK K⟩ (cxOf (L2.CX P w) P w K mg base ["_law_more", "_law_bonds", "_law_tests", "_law_told", "_law_rest", "_law_worse"] "_law_refusals_right" (defScope s__law_refusals_right) f cdv A outer s H E) [] s__law_refusals_right_9 b__law_refusals_right_9 := by
  have nd := sc__law_refusals_right.nd
  have hu := hr.units
  have hv := units65 hr
  have hg : (A.deeper (envOfC "_law_refusals_right" (defScope s__law_refusals_right) s.heap.objs.size f cdv)).guards = some [] := hgd
  have tk : Takes (cxOf (L2.CX P w) P w K mg base ["_law_more", "_law_bonds", "_law_tests", "_law_told", "_law_rest", "_law_worse"] "_law_refusals_right" (defScope s__law_refusals_right) f cdv A outer s H E) (fun cls d _ H => E cls d H) := takes_of rfl rfl rfl rfl
  have po : PassesOwn (model P w) (A.deeper (envOfC "_law_refusals_right" (defScope s__law_refusals_right) s.heap.objs.size f cdv)) (envOfC "_law_refusals_right" (defScope s__law_refusals_right) s.heap.objs.size f cdv) (cxOf (L2.CX P w) P w K mg base ["_law_more", "_law_bonds", "_law_tests", "_law_told", "_law_rest", "_law_worse"] "_law_refusals_right" (defScope s__law_refusals_right) f cdv A outer s H E).xe := passes_of (X := (cxOf (L2.CX P w) P w K mg base ["_law_more", "_law_bonds", "_law_tests", "_law_told", "_law_rest", "_law_worse"] "_law_refusals_right" (defScope s__law_refusals_right) f cdv A outer s H E)) rfl
  exact ⟨ss_ret (sx_call ((C.c__law_same).call hr hg tk) (by rfl) (by decide) (sa_cons (sx_lst (sa_cons (sx_call ((C.c_evidence).call hr hg tk) (by rfl) (by decide) (sa_cons (sx_var (pv 1)) (sa_cons (sx_var (pv 5)) (sa_nil) rfl rfl) rfl rfl) (by rfl) (by rfl)) (sa_cons (sx_call ((C.c_evidence).call hr hg tk) (by rfl) (by decide) (sa_cons (sx_var (pv 1)) (sa_cons (sx_sl (sx_var (pv 5)) (.some (sx_int) rfl) (.no)) (sa_nil) rfl rfl) rfl rfl) (by rfl) (by rfl)) (sa_nil) rfl rfl) rfl rfl)) (sa_cons (sx_konst (by rfl)) (sa_nil) rfl rfl) rfl rfl) (by rfl) (by rfl)) rfl⟩
def b__law_refusals_right : Iv.C := .seq b__law_refusals_right_0 (.seq b__law_refusals_right_1 (.seq b__law_refusals_right_2 (.seq b__law_refusals_right_3 (.seq b__law_refusals_right_4 (.seq b__law_refusals_right_5 (.seq b__law_refusals_right_6 (.seq b__law_refusals_right_7 (.seq b__law_refusals_right_8 (b__law_refusals_right_9)))))))))
theorem d__law_refusals_right {P : Program} {w : World} {K : PySem.W.Frag} {mg : Str → Option Value} {base : Heap} {Γ : Str → Option Iv.Fn} {k : Nat} {f : Addr} (T : Txt K mg) (C : AllCO P w K mg base k (Iv.runF Γ k) (caK K)) (cdv : Value) (A : Around) (outer : List Env) (s : Shared) (H : Hp) (E : XK) (hr : Room k (A.deeper (envOfC "_law_refusals_right" (defScope s__law_refusals_right) s.heap.objs.size f cdv))) (hgd : A.guards = some []) :
    Iv.SBx ⟨Iv.runF Γ k, fun cls d _ H => E cls d H, caK K⟩ (cxOf (L2.CX P w) P w K mg base ["_law_more", "_law_bonds", "_law_tests", "_law_told", "_law_rest", "_law_worse"] "_law_refusals_right" (defScope s__law_refusals_right) f cdv A outer s H E) [] (defBody s__law_refusals_right) b__law_refusals_right := by
  exact sb_all (sb_at (body := defBody s__law_refusals_right) (i := 0) (d__law_refusals_right_0 T C cdv A outer s H E hr hgd) (sb_at (body := defBody s__law_refusals_right) (i := 1) (d__law_refusals_right_1 T C cdv A outer s H E hr hgd) (sb_at (body := defBody s__law_refusals_right) (i := 2) (d__law_refusals_right_2 T C cdv A outer s H E hr hgd) (sb_at (body := defBody s__law_refusals_right) (i := 3) (d__law_refusals_right_3 T C cdv A outer s H E hr hgd) (sb_at (body := defBody s__law_refusals_right) (i := 4) (d__law_refusals_right_4 T C cdv A outer s H E hr hgd) (sb_at (body := defBody s__law_refusals_right) (i := 5) (d__law_refusals_right_5 T C cdv A outer s H E hr hgd) (sb_at (body := defBody s__law_refusals_right) (i := 6) (d__law_refusals_right_6 T C cdv A outer s H E hr hgd) (sb_at (body := defBody s__law_refusals_right) (i := 7) (d__law_refusals_right_7 T C cdv A outer s H E hr hgd) (sb_at (body := defBody s__law_refusals_right) (i := 8) (d__law_refusals_right_8 T C cdv A outer s H E hr hgd) (sb_last (body := defBody s__law_refusals_right) (i := 9) (d__law_refusals_right_9 T C cdv A outer s H E hr hgd) (by decide +kernel) (by kernel_rfl)) (by decide +kernel)) (by decide +kernel)) (by decide +kernel)) (by decide +kernel)) (by decide +kernel)) (by decide +kernel)) (by decide +kernel)) (by decide +kernel)) (by decide +kernel))
def f__law_refusals_right : Iv.Fn := ⟨["_law_more"], ["_law_more", "_law_bonds", "_law_tests", "_law_told", "_law_rest", "_law_worse"], [], b__law_refusals_right⟩
abbrev s__law_right : Stmt := topS 25
theorem sc__law_right : FnScope ["_law_box_here", "_law_more", "_law_told", "_law_pair_of"] ["_law_box_here"] (defScope s__law_right) := ⟨rfl, rfl, rfl, by decide +kernel, rfl, by decide +kernel, by decide +kernel⟩
def b__law_right_0 : Iv.C := .set 1 (.call "_law_take" (.cons (.ref 0) (.cons (.call "_law_of" (.cons (.ref 0) (.cons (.lst (.cons (.c (.int 1)) (.cons (.c (.int 6)) (.nil)))) (.nil)))) (.nil))))
abbrev s__law_right_0 : Stmt := (defBody s__law_right).getD 0 (.Pass ⟨0, 0, 0, 0⟩)
theorem d__law_right_0 {P : Program} {w : World} {K : PySem.W.Frag} {mg : Str → Option Value} {base : Heap} {Γ : Str → Option Iv.Fn} {k : Nat} {f : Addr} (T : Txt K mg) (C : AllCO P w K mg base k (Iv.runF Γ k) (caK K)) (cdv : Value) (A : Around) (outer : List Env) (s : Shared) (H : Hp) (E : XK) (hr : Room k (A.deeper (envOfC "_law_right" (defScope s__law_right) s.heap.objs.size f cdv))) (hgd : A.guards = some []) :
    Iv.SSx ⟨Iv.runF Γ k, fun cls d _ H => E cls d H, caK K⟩ (cxOf (L2.CX P w) P w K mg base ["_law_box_here", "_law_more", "_law_told", "_law_pair_of"] "_law_right" (defScope s__law_right) f cdv A outer s H E) [0] s__law_right_0 b__law_right_0 := by
  have nd := sc__law_right.nd
  have hu := hr.units
  have hv := units65 hr
  have hg : (A.deeper (envOfC "_law_right" (defScope s__law_right) s.heap.objs.size f cdv)).guards = some [] := hgd
  have tk : Takes (cxOf (L2.CX P w) P w K mg base ["_law_box_here", "_law_more", "_law_told", "_law_pair_of"] "_law_right" (defScope s__law_right) f cdv A outer s H E) (fun cls d _ H => E cls d H) := takes_of rfl rfl rfl rfl
  have po : PassesOwn (model P w) (A.deeper (envOfC "_law_right" (defScope s__law_right) s.heap.objs.size f cdv)) (envOfC "_law_right" (defScope s__law_right) s.heap.objs.size f cdv) (cxOf (L2.CX P w) P w K mg base ["_law_box_here", "_law_more", "_law_told", "_law_pair_of"] "_law_right" (defScope s__law_right) f cdv A outer s H E).xe := passes_of (X := (cxOf (L2.CX P w) P w K mg base ["_law_box_here", "_law_more", "_law_told", "_law_pair_of"] "_law_right" (defScope s__law_right) f cdv A outer s H E)) rfl
  exact ⟨@ss_set _ _ _ _ _ 1 (WE _ _) (ps_set (i := 1) nd rfl (by first | exact Or.inl rfl | exact Or.inr rfl) pe_we rfl) (sx_call ((C.c__law_take).call hr hg tk) (by rfl) (by decide) (sa_ref (pv 0) (sa_cons (sx_call ((C.c__law_of).call hr hg tk) (by rfl) (by decide) (sa_ref (pv 0) (sa_cons (sx_lst (sa_cons (sx_int) (sa_cons (sx_int) (sa_nil) rfl rfl) rfl rfl)) (sa_nil) rfl rfl) rfl) (by rfl) (by rfl)) (sa_nil) rfl rfl) rfl) (by rfl) (by rfl)).se⟩
def b__law_right_1 : Iv.C := .cond (.or (.not (.call "_law_three_right" (.cons (.var 1) (.nil)))) (.not (.call "_law_refusals_right" (.cons (.var 1) (.nil))))) (.ret (.c (.bool false))) (.skip)
abbrev s__law_right_1 : Stmt := (defBody s__law_right).getD 1 (.Pass ⟨0, 0, 0, 0⟩)
theorem d__law_right_1 {P : Program} {w : World} {K : PySem.W.Frag} {mg : Str → Option Value} {base : Heap} {Γ : Str → Option Iv.Fn} {k : Nat} {f : Addr} (T : Txt K mg) (C : AllCO P w K mg base k (Iv.runF Γ k) (caK K)) (cdv : Value) (A : Around) (outer : List Env) (s : Shared) (H : Hp) (E : XK) (hr : Room k (A.deeper (envOfC "_law_right" (defScope s__law_right) s.heap.objs.size f cdv))) (hgd : A.guards = some []) :
    Iv.SSx ⟨Iv.runF Γ k, fun cls d _ H => E cls d H, caK K⟩ (cxOf (L2.CX P w) P w K mg base ["_law_box_here", "_law_more", "_law_told", "_law_pair_of"] "_law_right" (defScope s__law_right) f cdv A outer s H E) [0] s__law_right_1 b__law_right_1 := by
  have nd := sc__law_right.nd
  have hu := hr.units
  have hv := units65 hr
  have hg : (A.deeper (envOfC "_law_right" (defScope s__law_right) s.heap.objs.size f cdv)).guards = some [] := hgd
  have tk : Takes (cxOf (L2.CX P w) P w K mg base ["_law_box_here", "_law_more", "_law_told", "_law_pair_of"] "_law_right" (defScope s__law_right) f cdv A outer s H E) (fun cls d _ H => E cls d H) := takes_of rfl rfl rfl rfl
  have po : PassesOwn (model P w) (A.deeper (envOfC "_law_right" (defScope s__law_right) s.heap.objs.size f cdv)) (envOfC "_law_right" (defScope s__law_right) s.heap.objs.size f cdv) (cxOf (L2.CX P w) P w K mg base ["_law_box_here", "_law_more", "_law_told", "_law_pair_of"] "_law_right" (defScope s__law_right) f cdv A outer s H E).xe := passes_of (X := (cxOf (L2.CX P w) P w K mg base ["_law_box_here", "_law_more", "_law_told", "_law_pair_of"] "_law_right" (defScope s__law_right) f cdv A outer s H E)) rfl
  exact ⟨ss_cond ((su_or (su_not (st_val (sx_call ((C.c__law_three_right).call hr hg tk) (by rfl) (by decide) (sa_cons (sx_var (pv 1)) (sa_nil) rfl rfl) (by rfl) (by rfl)) (by intro _; rfl))) (su_or1 (su_not (st_val (sx_call ((C.c__law_refusals_right).call hr hg tk) (by rfl) (by decide) (sa_cons (sx_var (pv 1)) (sa_nil) rfl rfl) (by rfl) (by rfl)) (by intro _; rfl))))).st) (sb_one (ss_ret (sx_bool) rfl)) (sb_nil)⟩
def b__law_right_2 : Iv.C := .set 2 (.lst (.cons (.call "bounds_of" (.cons (.tup (.nil)) (.cons (.lst (.nil)) (.nil)))) (.cons (.call "evidence" (.cons (.tup (.nil)) (.cons (.lst (.cons (.tup (.cons (.tup (.nil)) (.cons (.c .none) (.nil)))) (.nil))) (.nil)))) (.cons (.call "agree" (.cons (.tup (.nil)) (.cons (.lst (.nil)) (.cons (.tup (.nil)) (.nil))))) (.cons (.call "verdict" (.cons (.tup (.nil)) (.cons (.lst (.nil)) (.cons (.tup (.nil)) (.nil))))) (.nil))))))
abbrev s__law_right_2 : Stmt := (defBody s__law_right).getD 2 (.Pass ⟨0, 0, 0, 0⟩)
theorem d__law_right_2 {P : Program} {w : World} {K : PySem.W.Frag} {mg : Str → Option Value} {base : Heap} {Γ : Str → Option Iv.Fn} {k : Nat} {f : Addr} (T : Txt K mg) (C : AllCO P w K mg base k (Iv.runF Γ k) (caK K)) (cdv : Value) (A : Around) (outer : List Env) (s : Shared) (H : Hp) (E : XK) (hr : Room k (A.deeper (envOfC "_law_right" (defScope s__law_right) s.heap.objs.size f cdv))) (hgd : A.guards = some []) :
    Iv.SSx ⟨Iv.runF Γ k, fun cls d _ H => E cls d H, caK K⟩ (cxOf (L2.CX P w) P w K mg base ["_law_box_here", "_law_more", "_law_told", "_law_pair_of"] "_law_right" (defScope s__law_right) f cdv A outer s H E) [0] s__law_right_2 b__law_right_2 := by
  have nd := sc__law_right.nd
  have hu := hr.units
  have hv := units65 hr
  have hg : (A.deeper (envOfC "_law_right" (defScope s__law_right) s.heap.objs.size f cdv)).guards = some [] := hgd
  have tk : Takes (cxOf (L2.CX P w) P w K mg base ["_law_box_here", "_law_more", "_law_told", "_law_pair_of"] "_law_right" (defScope s__law_right) f cdv A outer s H E) (fun cls d _ H => E cls d H) := takes_of rfl rfl rfl rfl
  have po : PassesOwn (model P w) (A.deeper (envOfC "_law_right" (defScope s__law_right) s.heap.objs.size f cdv)) (envOfC "_law_right" (defScope s__law_right) s.heap.objs.size f cdv) (cxOf (L2.CX P w) P w K mg base ["_law_box_here", "_law_more", "_law_told", "_law_pair_of"] "_law_right" (defScope s__law_right) f cdv A outer s H E).xe := passes_of (X := (cxOf (L2.CX P w) P w K mg base ["_law_box_here", "_law_more", "_law_told", "_law_pair_of"] "_law_right" (defScope s__law_right) f cdv A outer s H E)) rfl
  exact ⟨@ss_set _ _ _ _ _ 2 (WE _ _) (ps_set (i := 2) nd rfl (by first | exact Or.inl rfl | exact Or.inr rfl) pe_we rfl) (sx_lst (sa_cons (sx_call ((C.c_bounds_of).call hr hg tk) (by rfl) (by decide) (sa_cons (sx_tup (sa_nil)) (sa_cons (sx_lst (sa_nil)) (sa_nil) rfl rfl) rfl rfl) (by rfl) (by rfl)) (sa_cons (sx_call ((C.c_evidence).call hr hg tk) (by rfl) (by decide) (sa_cons (sx_tup (sa_nil)) (sa_cons (sx_lst (sa_cons (sx_tup (sa_cons (sx_tup (sa_nil)) (sa_cons (sx_none) (sa_nil) rfl rfl) rfl rfl)) (sa_nil) rfl rfl)) (sa_nil) rfl rfl) rfl rfl) (by rfl) (by rfl)) (sa_cons (sx_call ((C.c_agree).call hr hg tk) (by rfl) (by decide) (sa_cons (sx_tup (sa_nil)) (sa_cons (sx_lst (sa_nil)) (sa_cons (sx_tup (sa_nil)) (sa_nil) rfl rfl) rfl rfl) rfl rfl) (by rfl) (by rfl)) (sa_cons (sx_call ((C.c_verdict).call hr hg tk) (by rfl) (by decide) (sa_cons (sx_tup (sa_nil)) (sa_cons (sx_lst (sa_nil)) (sa_cons (sx_tup (sa_nil)) (sa_nil) rfl rfl) rfl rfl) rfl rfl) (by rfl) (by rfl)) (sa_nil) rfl rfl) rfl rfl) rfl rfl) rfl rfl)).se⟩
def b__law_right_3 : Iv.C := .cond (.not (.call "_law_same" (.cons (.var 2) (.cons (.lst (.cons (.lst (.nil)) (.cons (.c .none) (.cons (.c (.bool true)) (.cons (.c (.str "yes")) (.nil)))))) (.nil))))) (.ret (.c (.bool false))) (.skip)
abbrev s__law_right_3 : Stmt := (defBody s__law_right).getD 3 (.Pass ⟨0, 0, 0, 0⟩)
theorem d__law_right_3 {P : Program} {w : World} {K : PySem.W.Frag} {mg : Str → Option Value} {base : Heap} {Γ : Str → Option Iv.Fn} {k : Nat} {f : Addr} (T : Txt K mg) (C : AllCO P w K mg base k (Iv.runF Γ k) (caK K)) (cdv : Value) (A : Around) (outer : List Env) (s : Shared) (H : Hp) (E : XK) (hr : Room k (A.deeper (envOfC "_law_right" (defScope s__law_right) s.heap.objs.size f cdv))) (hgd : A.guards = some []) :
    Iv.SSx ⟨Iv.runF Γ k, fun cls d _ H => E cls d H, caK K⟩ (cxOf (L2.CX P w) P w K mg base ["_law_box_here", "_law_more", "_law_told", "_law_pair_of"] "_law_right" (defScope s__law_right) f cdv A outer s H E) [0] s__law_right_3 b__law_right_3 := by
  have nd := sc__law_right.nd
  have hu := hr.units
  have hv := units65 hr
  have hg : (A.deeper (envOfC "_law_right" (defScope s__law_right) s.heap.objs.size f cdv)).guards = some [] := hgd
  have tk : Takes (cxOf (L2.CX P w) P w K mg base ["_law_box_here", "_law_more", "_law_told", "_law_pair_of"] "_law_right" (defScope s__law_right) f cdv A outer s H E) (fun cls d _ H => E cls d H) := takes_of rfl rfl rfl rfl
  have po : PassesOwn (model P w) (A.deeper (envOfC "_law_right" (defScope s__law_right) s.heap.objs.size f cdv)) (envOfC "_law_right" (defScope s__law_right) s.heap.objs.size f cdv) (cxOf (L2.CX P w) P w K mg base ["_law_box_here", "_law_more", "_law_told", "_law_pair_of"] "_law_right" (defScope s__law_right) f cdv A outer s H E).xe := passes_of (X := (cxOf (L2.CX P w) P w K mg base ["_law_box_here", "_law_more", "_law_told", "_law_pair_of"] "_law_right" (defScope s__law_right) f cdv A outer s H E)) rfl
  exact ⟨ss_cond (su_not (st_val (sx_call ((C.c__law_same).call hr hg tk) (by rfl) (by decide) (sa_cons (sx_var (pv 2)) (sa_cons (sx_lst (sa_cons (sx_lst (sa_nil)) (sa_cons (sx_none) (sa_cons (sx_bool) (sa_cons (sx_str) (sa_nil) rfl rfl) rfl rfl) rfl rfl) rfl rfl)) (sa_nil) rfl rfl) rfl rfl) (by rfl) (by rfl)) (by intro _; rfl))) (sb_one (ss_ret (sx_bool) rfl)) (sb_nil)⟩
def b__law_right_4 : Iv.C := .set 3 (.tup (.cons (.tup (.cons (.c (.int 1)) (.nil))) (.cons (.tup (.cons (.c (.int 0)) (.nil))) (.nil))))
abbrev s__law_right_4 : Stmt := (defBody s__law_right).getD 4 (.Pass ⟨0, 0, 0, 0⟩)
theorem d__law_right_4 {P : Program} {w : World} {K : PySem.W.Frag} {mg : Str → Option Value} {base : Heap} {Γ : Str → Option Iv.Fn} {k : Nat} {f : Addr} (T : Txt K mg) (C : AllCO P w K mg base k (Iv.runF Γ k) (caK K)) (cdv : Value) (A : Around) (outer : List Env) (s : Shared) (H : Hp) (E : XK) (hr : Room k (A.deeper (envOfC "_law_right" (defScope s__law_right) s.heap.objs.size f cdv))) (hgd : A.guards = some []) :
    Iv.SSx ⟨Iv.runF Γ k, fun cls d _ H => E cls d H, caK K⟩ (cxOf (L2.CX P w) P w K mg base ["_law_box_here", "_law_more", "_law_told", "_law_pair_of"] "_law_right" (defScope s__law_right) f cdv A outer s H E) [0] s__law_right_4 b__law_right_4 := by
  have nd := sc__law_right.nd
  have hu := hr.units
  have hv := units65 hr
  have hg : (A.deeper (envOfC "_law_right" (defScope s__law_right) s.heap.objs.size f cdv)).guards = some [] := hgd
  have tk : Takes (cxOf (L2.CX P w) P w K mg base ["_law_box_here", "_law_more", "_law_told", "_law_pair_of"] "_law_right" (defScope s__law_right) f cdv A outer s H E) (fun cls d _ H => E cls d H) := takes_of rfl rfl rfl rfl
  have po : PassesOwn (model P w) (A.deeper (envOfC "_law_right" (defScope s__law_right) s.heap.objs.size f cdv)) (envOfC "_law_right" (defScope s__law_right) s.heap.objs.size f cdv) (cxOf (L2.CX P w) P w K mg base ["_law_box_here", "_law_more", "_law_told", "_law_pair_of"] "_law_right" (defScope s__law_right) f cdv A outer s H E).xe := passes_of (X := (cxOf (L2.CX P w) P w K mg base ["_law_box_here", "_law_more", "_law_told", "_law_pair_of"] "_law_right" (defScope s__law_right) f cdv A outer s H E)) rfl
  exact ⟨@ss_set _ _ _ _ _ 3 (WE _ _) (ps_set (i := 3) nd rfl (by first | exact Or.inl rfl | exact Or.inr rfl) pe_we rfl) (sx_tup (sa_cons (sx_tup (sa_cons (sx_int) (sa_nil) rfl rfl)) (sa_cons (sx_tup (sa_cons (sx_int) (sa_nil) rfl rfl)) (sa_nil) rfl rfl) rfl rfl)).se⟩
def b__law_right_5 : Iv.C := .set 2 (.lst (.cons (.call "bounds_of" (.cons (.var 3) (.cons (.lst (.cons (.tup (.cons (.tup (.nil)) (.cons (.c (.int 0)) (.nil)))) (.nil))) (.nil)))) (.cons (.call "bounds_of" (.cons (.var 3) (.cons (.lst (.cons (.tup (.cons (.tup (.nil)) (.cons (.c (.int 0)) (.nil)))) (.cons (.tup (.cons (.tup (.nil)) (.cons (.c (.int 1)) (.nil)))) (.nil)))) (.nil)))) (.nil))))
abbrev s__law_right_5 : Stmt := (defBody s__law_right).getD 5 (.Pass ⟨0, 0, 0, 0⟩)
theorem d__law_right_5 {P : Program} {w : World} {K : PySem.W.Frag} {mg : Str → Option Value} {base : Heap} {Γ : Str → Option Iv.Fn} {k : Nat} {f : Addr} (T : Txt K mg) (C : AllCO P w K mg base k (Iv.runF Γ k) (caK K)) (cdv : Value) (A : Around) (outer : List Env) (s : Shared) (H : Hp) (E : XK) (hr : Room k (A.deeper (envOfC "_law_right" (defScope s__law_right) s.heap.objs.size f cdv))) (hgd : A.guards = some []) :
    Iv.SSx ⟨Iv.runF Γ k, fun cls d _ H => E cls d H, caK K⟩ (cxOf (L2.CX P w) P w K mg base ["_law_box_here", "_law_more", "_law_told", "_law_pair_of"] "_law_right" (defScope s__law_right) f cdv A outer s H E) [0] s__law_right_5 b__law_right_5 := by
  have nd := sc__law_right.nd
  have hu := hr.units
  have hv := units65 hr
  have hg : (A.deeper (envOfC "_law_right" (defScope s__law_right) s.heap.objs.size f cdv)).guards = some [] := hgd
  have tk : Takes (cxOf (L2.CX P w) P w K mg base ["_law_box_here", "_law_more", "_law_told", "_law_pair_of"] "_law_right" (defScope s__law_right) f cdv A outer s H E) (fun cls d _ H => E cls d H) := takes_of rfl rfl rfl rfl
  have po : PassesOwn (model P w) (A.deeper (envOfC "_law_right" (defScope s__law_right) s.heap.objs.size f cdv)) (envOfC "_law_right" (defScope s__law_right) s.heap.objs.size f cdv) (cxOf (L2.CX P w) P w K mg base ["_law_box_here", "_law_more", "_law_told", "_law_pair_of"] "_law_right" (defScope s__law_right) f cdv A outer s H E).xe := passes_of (X := (cxOf (L2.CX P w) P w K mg base ["_law_box_here", "_law_more", "_law_told", "_law_pair_of"] "_law_right" (defScope s__law_right) f cdv A outer s H E)) rfl
  exact ⟨@ss_set _ _ _ _ _ 2 (WE _ _) (ps_set (i := 2) nd rfl (by first | exact Or.inl rfl | exact Or.inr rfl) pe_we rfl) (sx_lst (sa_cons (sx_call ((C.c_bounds_of).call hr hg tk) (by rfl) (by decide) (sa_cons (sx_var (pv 3)) (sa_cons (sx_lst (sa_cons (sx_tup (sa_cons (sx_tup (sa_nil)) (sa_cons (sx_int) (sa_nil) rfl rfl) rfl rfl)) (sa_nil) rfl rfl)) (sa_nil) rfl rfl) rfl rfl) (by rfl) (by rfl)) (sa_cons (sx_call ((C.c_bounds_of).call hr hg tk) (by rfl) (by decide) (sa_cons (sx_var (pv 3)) (sa_cons (sx_lst (sa_cons (sx_tup (sa_cons (sx_tup (sa_nil)) (sa_cons (sx_int) (sa_nil) rfl rfl) rfl rfl)) (sa_cons (sx_tup (sa_cons (sx_tup (sa_nil)) (sa_cons (sx_int) (sa_nil) rfl rfl) rfl rfl)) (sa_nil) rfl rfl) rfl rfl)) (sa_nil) rfl rfl) rfl rfl) (by rfl) (by rfl)) (sa_nil) rfl rfl) rfl rfl)).se⟩
def b__law_right_6 : Iv.C := .app 2 (.call "evidence" (.cons (.var 3) (.cons (.lst (.cons (.tup (.cons (.tup (.cons (.c (.int 0)) (.nil))) (.cons (.c (.int 1)) (.nil)))) (.cons (.tup (.cons (.tup (.nil)) (.cons (.c (.int 0)) (.nil)))) (.nil)))) (.nil))))
abbrev s__law_right_6 : Stmt := (defBody s__law_right).getD 6 (.Pass ⟨0, 0, 0, 0⟩)
theorem d__law_right_6 {P : Program} {w : World} {K : PySem.W.Frag} {mg : Str → Option Value} {base : Heap} {Γ : Str → Option Iv.Fn} {k : Nat} {f : Addr} (T : Txt K mg) (C : AllCO P w K mg base k (Iv.runF Γ k) (caK K)) (cdv : Value) (A : Around) (outer : List Env) (s : Shared) (H : Hp) (E : XK) (hr : Room k (A.deeper (envOfC "_law_right" (defScope s__law_right) s.heap.objs.size f cdv))) (hgd : A.guards = some []) :
    Iv.SSx ⟨Iv.runF Γ k, fun cls d _ H => E cls d H, caK K⟩ (cxOf (L2.CX P w) P w K mg base ["_law_box_here", "_law_more", "_law_told", "_law_pair_of"] "_law_right" (defScope s__law_right) f cdv A outer s H E) [0] s__law_right_6 b__law_right_6 := by
  have nd := sc__law_right.nd
  have hu := hr.units
  have hv := units65 hr
  have hg : (A.deeper (envOfC "_law_right" (defScope s__law_right) s.heap.objs.size f cdv)).guards = some [] := hgd
  have tk : Takes (cxOf (L2.CX P w) P w K mg base ["_law_box_here", "_law_more", "_law_told", "_law_pair_of"] "_law_right" (defScope s__law_right) f cdv A outer s H E) (fun cls d _ H => E cls d H) := takes_of rfl rfl rfl rfl
  have po : PassesOwn (model P w) (A.deeper (envOfC "_law_right" (defScope s__law_right) s.heap.objs.size f cdv)) (envOfC "_law_right" (defScope s__law_right) s.heap.objs.size f cdv) (cxOf (L2.CX P w) P w K mg base ["_law_box_here", "_law_more", "_law_told", "_law_pair_of"] "_law_right" (defScope s__law_right) f cdv A outer s H E).xe := passes_of (X := (cxOf (L2.CX P w) P w K mg base ["_law_box_here", "_law_more", "_law_told", "_law_pair_of"] "_law_right" (defScope s__law_right) f cdv A outer s H E)) rfl
  exact ⟨ss_app (sx_call ((C.c_evidence).call hr hg tk) (by rfl) (by decide) (sa_cons (sx_var (pv 3)) (sa_cons (sx_konst (by rfl)) (sa_nil) rfl rfl) rfl rfl) (by rfl) (by rfl)) rfl (pe_bm PySem.F.plainAttrs_list PySem.F.slot_list_append PySem.F.type_list_append mt_append (pv 2) (pa_cons pe_we pa_nil rfl))⟩
def b__law_right_7 : Iv.C := .ret (.call "_law_same" (.cons (.var 2) (.cons (.lst (.cons (.lst (.cons (.tup (.cons (.c (.int 1)) (.cons (.c .none) (.nil)))) (.cons (.tup (.cons (.c (.int 0)) (.cons (.c .none) (.nil)))) (.nil)))) (.cons (.lst (.cons (.tup (.cons (.c (.int 1)) (.cons (.c .none) (.nil)))) (.cons (.tup (.cons (.c (.int 1)) (.cons (.c .none) (.nil)))) (.nil)))) (.cons (.tup (.cons (.c (.int 0)) (.cons (.c (.int 0)) (.cons (.c (.int 1)) (.nil))))) (.nil))))) (.nil))))
abbrev s__law_right_7 : Stmt := (defBody s__law_right).getD 7 (.Pass ⟨0, 0, 0, 0⟩)
theorem d__law_right_7 {P : Program} {w : World} {K : PySem.W.Frag} {mg : Str → Option Value} {base : Heap} {Γ : Str → Option Iv.Fn} {k : Nat} {f : Addr} (T : Txt K mg) (C : AllCO P w K mg base k (Iv.runF Γ k) (caK K)) (cdv : Value) (A : Around) (outer : List Env) (s : Shared) (H : Hp) (E : XK) (hr : Room k (A.deeper (envOfC "_law_right" (defScope s__law_right) s.heap.objs.size f cdv))) (hgd : A.guards = some []) :
    Iv.SSx ⟨Iv.runF Γ k, fun cls d _ H => E cls d H, caK K⟩ (cxOf (L2.CX P w) P w K mg base ["_law_box_here", "_law_more", "_law_told", "_law_pair_of"] "_law_right" (defScope s__law_right) f cdv A outer s H E) [0] s__law_right_7 b__law_right_7 := by
  have nd := sc__law_right.nd
  have hu := hr.units
  have hv := units65 hr
  have hg : (A.deeper (envOfC "_law_right" (defScope s__law_right) s.heap.objs.size f cdv)).guards = some [] := hgd
  have tk : Takes (cxOf (L2.CX P w) P w K mg base ["_law_box_here", "_law_more", "_law_told", "_law_pair_of"] "_law_right" (defScope s__law_right) f cdv A outer s H E) (fun cls d _ H => E cls d H) := takes_of rfl rfl rfl rfl
  have po : PassesOwn (model P w) (A.deeper (envOfC "_law_right" (defScope s__law_right) s.heap.objs.size f cdv)) (envOfC "_law_right" (defScope s__law_right) s.heap.objs.size f cdv) (cxOf (L2.CX P w) P w K mg base ["_law_box_here", "_law_more", "_law_told", "_law_pair_of"] "_law_right" (defScope s__law_right) f cdv A outer s H E).xe := passes_of (X := (cxOf (L2.CX P w) P w K mg base ["_law_box_here", "_law_more", "_law_told", "_law_pair_of"] "_law_right" (defScope s__law_right) f cdv A outer s H E)) rfl
  exact ⟨ss_ret (sx_call ((C.c__law_same).call hr hg tk) (by rfl) (by decide) (sa_cons (sx_var (pv 2)) (sa_cons (sx_konst (by rfl)) (sa_nil) rfl rfl) rfl rfl) (by rfl) (by rfl)) rfl⟩
def b__law_right : Iv.C := .seq b__law_right_0 (.seq b__law_right_1 (.seq b__law_right_2 (.seq b__law_right_3 (.seq b__law_right_4 (.seq b__law_right_5 (.seq b__law_right_6 (b__law_right_7)))))))
theorem d__law_right {P : Program} {w : World} {K : PySem.W.Frag} {mg : Str → Option Value} {base : Heap} {Γ : Str → Option Iv.Fn} {k : Nat} {f : Addr} (T : Txt K mg) (C : AllCO P w K mg base k (Iv.runF Γ k) (caK K)) (cdv : Value) (A : Around) (outer : List Env) (s : Shared) (H : Hp) (E : XK) (hr : Room k (A.deeper (envOfC "_law_right" (defScope s__law_right) s.heap.objs.size f cdv))) (hgd : A.guards = some []) :
    Iv.SBx ⟨Iv.runF Γ k, fun cls d _ H => E cls d H, caK K⟩ (cxOf (L2.CX P w) P w K mg base ["_law_box_here", "_law_more", "_law_told", "_law_pair_of"] "_law_right" (defScope s__law_right) f cdv A outer s H E) [0] (defBody s__law_right) b__law_right := by
  exact sb_all (sb_at (body := defBody s__law_right) (i := 0) (d__law_right_0 T C cdv A outer s H E hr hgd) (sb_at (body := defBody s__law_right) (i := 1) (d__law_right_1 T C cdv A outer s H E hr hgd) (sb_at (body := defBody s__law_right) (i := 2) (d__law_right_2 T C cdv A outer s H E hr hgd) (sb_at (body := defBody s__law_right) (i := 3) (d__law_right_3 T C cdv A outer s H E hr hgd) (sb_at (body := defBody s__law_right) (i := 4) (d__law_right_4 T C cdv A outer s H E hr hgd) (sb_at (body := defBody s__law_right) (i := 5) (d__law_right_5 T C cdv A outer s H E hr hgd) (sb_at (body := defBody s__law_right) (i := 6) (d__law_right_6 T C cdv A outer s H E hr hgd) (sb_last (body := defBody s__law_right) (i := 7) (d__law_right_7 T C cdv A outer s H E hr hgd) (by decide +kernel) (by kernel_rfl)) (by decide +kernel)) (by decide +kernel)) (by decide +kernel)) (by decide +kernel)) (by decide +kernel)) (by decide +kernel)) (by decide +kernel))
def f__law_right : Iv.Fn := ⟨["_law_box_here"], ["_law_box_here", "_law_more", "_law_told", "_law_pair_of"], [0], b__law_right⟩
abbrev s_law : Stmt := topS 26
theorem sc_law : FnScope ["_law_script", "_law_k"] ["_law_script"] (defScope s_law) := ⟨rfl, rfl, rfl, by decide +kernel, rfl, by decide +kernel, by decide +kernel⟩
def b_law : Iv.C := .ret (.b1 .all (.comp .rng1 (.cons (.op .add (.c (.int 1)) (.min2 (.c (.int 3)) (.b1 .len (.var 0)))) (.nil)) (.name 1) (.c (.bool true)) (.callf "_law_right" (.call "_law_box" (.cons (.var 0) (.cons (.var 1) (.nil)))))))
theorem d_law {P : Program} {w : World} {K : PySem.W.Frag} {mg : Str → Option Value} {base : Heap} {Γ : Str → Option Iv.Fn} {k : Nat} {f : Addr} (T : Txt K mg) (C : AllCO P w K mg base k (Iv.runF Γ k) (caK K)) (cdv : Value) (A : Around) (outer : List Env) (s : Shared) (H : Hp) (E : XK) (hr : Room k (A.deeper (envOfC "law" (defScope s_law) s.heap.objs.size f cdv))) (hgd : A.guards = some []) :
    Iv.SBx ⟨Iv.runF Γ k, fun cls d _ H => E cls d H, caK K⟩ (cxOf (L2.CX P w) P w K mg base ["_law_script", "_law_k"] "law" (defScope s_law) f cdv A outer s H E) [] (defBody s_law) b_law := by
  have nd := sc_law.nd
  have hu := hr.units
  have hv := units65 hr
  have hg : (A.deeper (envOfC "law" (defScope s_law) s.heap.objs.size f cdv)).guards = some [] := hgd
  have tk : Takes (cxOf (L2.CX P w) P w K mg base ["_law_script", "_law_k"] "law" (defScope s_law) f cdv A outer s H E) (fun cls d _ H => E cls d H) := takes_of rfl rfl rfl rfl
  have po : PassesOwn (model P w) (A.deeper (envOfC "law" (defScope s_law) s.heap.objs.size f cdv)) (envOfC "law" (defScope s_law) s.heap.objs.size f cdv) (cxOf (L2.CX P w) P w K mg base ["_law_script", "_law_k"] "law" (defScope s_law) f cdv A outer s H E).xe := passes_of (X := (cxOf (L2.CX P w) P w K mg base ["_law_script", "_law_k"] "law" (defScope s_law) f cdv A outer s H E)) rfl
  exact ⟨sb_one (ss_ret (sx_b1 (k := .all) (b_all (by rfl) T.m_all) (sx_comp (own := [("_law_k", 1)]) rfl nd (by exact blkOk_by (N := ["_law_script", "_law_k"]) (sc := (defScope s_law)) (by decide +kernel)) rfl (si_rng1 (by rfl) T.m_range (sa_cons (sx_op (sx_int) (sx_min2 (b_min (by rfl) T.m_min) (sx_int) (sx_b1 (k := .len) (b_len (by rfl) T.m_len) (sx_var (pv 0)) rfl hg hu rfl) rfl rfl rfl) rfl) (sa_nil) rfl rfl) rfl) (fun _ _ _ _ _ => sg_name nd rfl (by first | exact Or.inl rfl | exact Or.inr rfl) (by first | exact Or.inl rfl | exact Or.inr rfl)) (fun _ _ _ _ _ => sts_nil) (fun _ _ _ _ _ => sx_callf ((C.c__law_right).call hr hg takes0) (by rfl) (by decide) (sx_call ((C.c__law_box).call hr hg takes0) (by rfl) (by decide) (sa_cons (sx_var (pv 0)) (sa_cons (sx_var (pv 1)) (sa_nil) rfl rfl) rfl rfl) (by rfl) (by rfl)) rfl rfl) (fun _ => rfl)) rfl hg hu rfl) rfl)⟩
def f_law : Iv.Fn := ⟨["_law_script"], ["_law_script", "_law_k"], [], b_law⟩
end Lw
end

section
set_option Elab.async false
set_option linter.all false
set_option maxRecDepth 100000
set_option maxHeartbeats 4000000
namespace Lw
open PySem PySem.Spec PyProof.Rows L2 Iv
/-! ### the table -/
def tab : List (Str × Iv.Fn) := ("is_number", f_is_number) :: ("is_index", f_is_index) :: ("count_in", f_count_in) :: ("bounds_of", f_bounds_of) :: ("evidence", f_evidence) :: ("shows_evidence", f_shows_evidence) :: ("agree", f_agree) :: ("verdict", f_verdict) :: ("is_evidence", f_is_evidence) :: ("bounds_for", f_bounds_for) :: ("is_within", f_is_within) :: ("count_for", f_count_for) :: ("_law_cell_at", f__law_cell_at) :: ("_law_box", f__law_box) :: ("_law_take", f__law_take) :: ("_law_of", f__law_of) :: ("_law_same", f__law_same) :: ("_law_refused", f__law_refused) :: ("_law_three_right", f__law_three_right) :: ("_law_refusals_right", f__law_refusals_right) :: ("_law_right", f__law_right) :: ("law", f_law) :: []
def Gam (x : Str) : Option Iv.Fn := tab.lookup x
theorem g_is_number : Gam "is_number" = some f_is_number := by rfl
theorem g_is_index : Gam "is_index" = some f_is_index := by rfl
theorem g_count_in : Gam "count_in" = some f_count_in := by rfl
theorem g_bounds_of : Gam "bounds_of" = some f_bounds_of := by rfl
theorem g_evidence : Gam "evidence" = some f_evidence := by rfl
theorem g_shows_evidence : Gam "shows_evidence" = some f_shows_evidence := by rfl
theorem g_agree : Gam "agree" = some f_agree := by rfl
theorem g_verdict : Gam "verdict" = some f_verdict := by rfl
theorem g_is_evidence : Gam "is_evidence" = some f_is_evidence := by rfl
theorem g_bounds_for : Gam "bounds_for" = some f_bounds_for := by rfl
theorem g_is_within : Gam "is_within" = some f_is_within := by rfl
theorem g_count_for : Gam "count_for" = some f_count_for := by rfl
theorem g__law_cell_at : Gam "_law_cell_at" = some f__law_cell_at := by rfl
theorem g__law_box : Gam "_law_box" = some f__law_box := by rfl
theorem g__law_take : Gam "_law_take" = some f__law_take := by rfl
theorem g__law_of : Gam "_law_of" = some f__law_of := by rfl
theorem g__law_same : Gam "_law_same" = some f__law_same := by rfl
theorem g__law_refused : Gam "_law_refused" = some f__law_refused := by rfl
theorem g__law_three_right : Gam "_law_three_right" = some f__law_three_right := by rfl
theorem g__law_refusals_right : Gam "_law_refusals_right" = some f__law_refusals_right := by rfl
theorem g__law_right : Gam "_law_right" = some f__law_right := by rfl
theorem g_law : Gam "law" = some f_law := by rfl
abbrev FnP (K : PySem.W.Frag) (x : Str) (st : Stmt) (f : Addr) (fd : FuncData) : Prop := FunD K x x (defArgs st) (defBody st) (defScope st) [] [] f fd
section
variable {K : PySem.W.Frag} {f : Addr} {fd : FuncData}
theorem bn_is_number (F : FnP K "is_number" s_is_number f fd) : Binds K fd f_is_number.ps [] := F.bindsN fun _ _ _ _ _ _ us hl => match us, hl with | [_], _ => rfl
theorem kw_is_number (F : FnP K "is_number" s_is_number f fd) : ∀ q ∈ ([] : List (List Str × List Nat)), KwOk K fd f_is_number.ps q.1 q.2 := fun _ z => by cases z
theorem bn_is_index (F : FnP K "is_index" s_is_index f fd) : Binds K fd f_is_index.ps [] := F.bindsN fun _ _ _ _ _ _ us hl => match us, hl with | [_, _], _ => rfl
theorem kw_is_index (F : FnP K "is_index" s_is_index f fd) : ∀ q ∈ ([] : List (List Str × List Nat)), KwOk K fd f_is_index.ps q.1 q.2 := fun _ z => by cases z
theorem bn_count_in (F : FnP K "count_in" s_count_in f fd) : Binds K fd f_count_in.ps [] := F.bindsN fun _ _ _ _ _ _ us hl => match us, hl with | [_, _], _ => rfl
theorem kw_count_in (F : FnP K "count_in" s_count_in f fd) : ∀ q ∈ ([] : List (List Str × List Nat)), KwOk K fd f_count_in.ps q.1 q.2 := fun _ z => by cases z
theorem bn_bounds_of (F : FnP K "bounds_of" s_bounds_of f fd) : Binds K fd f_bounds_of.ps [] := F.bindsN fun _ _ _ _ _ _ us hl => match us, hl with | [_, _], _ => rfl
theorem kw_bounds_of (F : FnP K "bounds_of" s_bounds_of f fd) : ∀ q ∈ ([] : List (List Str × List Nat)), KwOk K fd f_bounds_of.ps q.1 q.2 := fun _ z => by cases z
theorem bn_evidence (F : FnP K "evidence" s_evidence f fd) : Binds K fd f_evidence.ps [] := F.bindsN fun _ _ _ _ _ _ us hl => match us, hl with | [_, _], _ => rfl
theorem kw_evidence (F : FnP K "evidence" s_evidence f fd) : ∀ q ∈ ([] : List (List Str × List Nat)), KwOk K fd f_evidence.ps q.1 q.2 := fun _ z => by cases z
theorem bn_shows_evidence (F : FnP K "shows_evidence" s_shows_evidence f fd) : Binds K fd f_shows_evidence.ps [] := F.bindsN fun _ _ _ _ _ _ us hl => match us, hl with | [_, _, _], _ => rfl
theorem kw_shows_evidence (F : FnP K "shows_evidence" s_shows_evidence f fd) : ∀ q ∈ ([] : List (List Str × List Nat)), KwOk K fd f_shows_evidence.ps q.1 q.2 := fun _ z => by cases z
theorem bn_agree (F : FnP K "agree" s_agree f fd) : Binds K fd f_agree.ps [] := F.bindsN fun _ _ _ _ _ _ us hl => match us, hl with | [_, _, _], _ => rfl
theorem kw_agree (F : FnP K "agree" s_agree f fd) : ∀ q ∈ ([] : List (List Str × List Nat)), KwOk K fd f_agree.ps q.1 q.2 := fun _ z => by cases z
theorem bn_verdict (F : FnP K "verdict" s_verdict f fd) : Binds K fd f_verdict.ps [] := F.bindsN fun _ _ _ _ _ _ us hl => match us, hl with | [_, _, _], _ => rfl
theorem kw_verdict (F : FnP K "verdict" s_verdict f fd) : ∀ q ∈ ([] : List (List Str × List Nat)), KwOk K fd f_verdict.ps q.1 q.2 := fun _ z => by cases z
theorem bn_is_evidence (F : FnP K "is_evidence" s_is_evidence f fd) : Binds K fd f_is_evidence.ps [] := F.bindsN fun _ _ _ _ _ _ us hl => match us, hl with | [_, _, _, _, _], _ => rfl
theorem kw_is_evidence (F : FnP K "is_evidence" s_is_evidence f fd) : ∀ q ∈ ([] : List (List Str × List Nat)), KwOk K fd f_is_evidence.ps q.1 q.2 := fun _ z => by cases z
theorem bn_bounds_for (F : FnP K "bounds_for" s_bounds_for f fd) : Binds K fd f_bounds_for.ps [] := F.bindsN fun _ _ _ _ _ _ us hl => match us, hl with | [_, _, _], _ => rfl
theorem kw_bounds_for (F : FnP K "bounds_for" s_bounds_for f fd) : ∀ q ∈ ([] : List (List Str × List Nat)), KwOk K fd f_bounds_for.ps q.1 q.2 := fun _ z => by cases z
theorem bn_is_within (F : FnP K "is_within" s_is_within f fd) : Binds K fd f_is_within.ps [] := F.bindsN fun _ _ _ _ _ _ us hl => match us, hl with | [_, _], _ => rfl
theorem kw_is_within (F : FnP K "is_within" s_is_within f fd) : ∀ q ∈ ([] : List (List Str × List Nat)), KwOk K fd f_is_within.ps q.1 q.2 := fun _ z => by cases z
theorem bn_count_for (F : FnP K "count_for" s_count_for f fd) : Binds K fd f_count_for.ps [] := F.bindsN fun _ _ _ _ _ _ us hl => match us, hl with | [_, _, _], _ => rfl
theorem kw_count_for (F : FnP K "count_for" s_count_for f fd) : ∀ q ∈ ([] : List (List Str × List Nat)), KwOk K fd f_count_for.ps q.1 q.2 := fun _ z => by cases z
theorem bn__law_cell_at (F : FnP K "_law_cell_at" s__law_cell_at f fd) : Binds K fd f__law_cell_at.ps [] := F.bindsN fun _ _ _ _ _ _ us hl => match us, hl with | [_, _], _ => rfl
theorem kw__law_cell_at (F : FnP K "_law_cell_at" s__law_cell_at f fd) : ∀ q ∈ ([] : List (List Str × List Nat)), KwOk K fd f__law_cell_at.ps q.1 q.2 := fun _ z => by cases z
theorem bn__law_box (F : FnP K "_law_box" s__law_box f fd) : Binds K fd f__law_box.ps [] := F.bindsN fun _ _ _ _ _ _ us hl => match us, hl with | [_, _], _ => rfl
theorem kw__law_box (F : FnP K "_law_box" s__law_box f fd) : ∀ q ∈ ([] : List (List Str × List Nat)), KwOk K fd f__law_box.ps q.1 q.2 := fun _ z => by cases z
theorem bn__law_take (F : FnP K "_law_take" s__law_take f fd) : Binds K fd f__law_take.ps [] := F.bindsN fun _ _ _ _ _ _ us hl => match us, hl with | [_, _], _ => rfl
theorem kw__law_take (F : FnP K "_law_take" s__law_take f fd) : ∀ q ∈ ([] : List (List Str × List Nat)), KwOk K fd f__law_take.ps q.1 q.2 := fun _ z => by cases z
theorem bn__law_of (F : FnP K "_law_of" s__law_of f fd) : Binds K fd f__law_of.ps [] := F.bindsN fun _ _ _ _ _ _ us hl => match us, hl with | [_, _], _ => rfl
theorem kw__law_of (F : FnP K "_law_of" s__law_of f fd) : ∀ q ∈ ([] : List (List Str × List Nat)), KwOk K fd f__law_of.ps q.1 q.2 := fun _ z => by cases z
theorem bn__law_same (F : FnP K "_law_same" s__law_same f fd) : Binds K fd f__law_same.ps [] := F.bindsN fun _ _ _ _ _ _ us hl => match us, hl with | [_, _], _ => rfl
theorem kw__law_same (F : FnP K "_law_same" s__law_same f fd) : ∀ q ∈ ([] : List (List Str × List Nat)), KwOk K fd f__law_same.ps q.1 q.2 := fun _ z => by cases z
theorem bn__law_refused (F : FnP K "_law_refused" s__law_refused f fd) : Binds K fd f__law_refused.ps [] := F.bindsN fun _ _ _ _ _ _ us hl => match us, hl with | [_, _, _, _], _ => rfl
theorem kw__law_refused (F : FnP K "_law_refused" s__law_refused f fd) : ∀ q ∈ ([] : List (List Str × List Nat)), KwOk K fd f__law_refused.ps q.1 q.2 := fun _ z => by cases z
theorem bn__law_three_right (F : FnP K "_law_three_right" s__law_three_right f fd) : Binds K fd f__law_three_right.ps [] := F.bindsN fun _ _ _ _ _ _ us hl => match us, hl with | [_], _ => rfl
theorem kw__law_three_right (F : FnP K "_law_three_right" s__law_three_right f fd) : ∀ q ∈ ([] : List (List Str × List Nat)), KwOk K fd f__law_three_right.ps q.1 q.2 := fun _ z => by cases z
theorem bn__law_refusals_right (F : FnP K "_law_refusals_right" s__law_refusals_right f fd) : Binds K fd f__law_refusals_right.ps [] := F.bindsN fun _ _ _ _ _ _ us hl => match us, hl with | [_], _ => rfl
theorem kw__law_refusals_right (F : FnP K "_law_refusals_right" s__law_refusals_right f fd) : ∀ q ∈ ([] : List (List Str × List Nat)), KwOk K fd f__law_refusals_right.ps q.1 q.2 := fun _ z => by cases z
theorem bn__law_right (F : FnP K "_law_right" s__law_right f fd) : Binds K fd f__law_right.ps [] := F.bindsN fun _ _ _ _ _ _ us hl => match us, hl with | [_], _ => rfl
theorem kw__law_right (F : FnP K "_law_right" s__law_right f fd) : ∀ q ∈ ([] : List (List Str × List Nat)), KwOk K fd f__law_right.ps q.1 q.2 := fun _ z => by cases z
theorem bn_law (F : FnP K "law" s_law f fd) : Binds K fd f_law.ps [] := F.bindsN fun _ _ _ _ _ _ us hl => match us, hl with | [_], _ => rfl
theorem kw_law (F : FnP K "law" s_law f fd) : ∀ q ∈ ([] : List (List Str × List Nat)), KwOk K fd f_law.ps q.1 q.2 := fun _ z => by cases z
end
/-! ### the head -/
def dd_is_number : He.DefD := ⟨("is_number", none), "is_number", "is_number", defArgs s_is_number, defBody s_is_number, defScope s_is_number, [], []⟩
def dd_is_index : He.DefD := ⟨("is_index", none), "is_index", "is_index", defArgs s_is_index, defBody s_is_index, defScope s_is_index, [], []⟩
def dd_count_in : He.DefD := ⟨("count_in", none), "count_in", "count_in", defArgs s_count_in, defBody s_count_in, defScope s_count_in, [], []⟩
def dd_bounds_of : He.DefD := ⟨("bounds_of", none), "bounds_of", "bounds_of", defArgs s_bounds_of, defBody s_bounds_of, defScope s_bounds_of, [], []⟩
def dd_evidence : He.DefD := ⟨("evidence", none), "evidence", "evidence", defArgs s_evidence, defBody s_evidence, defScope s_evidence, [], []⟩
def dd_shows_evidence : He.DefD := ⟨("shows_evidence", none), "shows_evidence", "shows_evidence", defArgs s_shows_evidence, defBody s_shows_evidence, defScope s_shows_evidence, [], []⟩
def dd_agree : He.DefD := ⟨("agree", none), "agree", "agree", defArgs s_agree, defBody s_agree, defScope s_agree, [], []⟩
def dd_verdict : He.DefD := ⟨("verdict", none), "verdict", "verdict", defArgs s_verdict, defBody s_verdict, defScope s_verdict, [], []⟩
def dd_is_evidence : He.DefD := ⟨("is_evidence", none), "is_evidence", "is_evidence", defArgs s_is_evidence, defBody s_is_evidence, defScope s_is_evidence, [], []⟩
def dd_bounds_for : He.DefD := ⟨("bounds_for", none), "bounds_for", "bounds_for", defArgs s_bounds_for, defBody s_bounds_for, defScope s_bounds_for, [], []⟩
def dd_is_within : He.DefD := ⟨("is_within", none), "is_within", "is_within", defArgs s_is_within, defBody s_is_within, defScope s_is_within, [], []⟩
def dd_count_for : He.DefD := ⟨("count_for", none), "count_for", "count_for", defArgs s_count_for, defBody s_count_for, defScope s_count_for, [], []⟩
def dd__law_cell_at : He.DefD := ⟨("_law_cell_at", none), "_law_cell_at", "_law_cell_at", defArgs s__law_cell_at, defBody s__law_cell_at, defScope s__law_cell_at, [], []⟩
def dd__law_box : He.DefD := ⟨("_law_box", none), "_law_box", "_law_box", defArgs s__law_box, defBody s__law_box, defScope s__law_box, [], []⟩
def dd__law_take : He.DefD := ⟨("_law_take", none), "_law_take", "_law_take", defArgs s__law_take, defBody s__law_take, defScope s__law_take, [], []⟩
def dd__law_of : He.DefD := ⟨("_law_of", none), "_law_of", "_law_of", defArgs s__law_of, defBody s__law_of, defScope s__law_of, [], []⟩
def dd__law_same : He.DefD := ⟨("_law_same", none), "_law_same", "_law_same", defArgs s__law_same, defBody s__law_same, defScope s__law_same, [], []⟩
def dd__law_refused : He.DefD := ⟨("_law_refused", none), "_law_refused", "_law_refused", defArgs s__law_refused, defBody s__law_refused, defScope s__law_refused, [], []⟩
def dd__law_three_right : He.DefD := ⟨("_law_three_right", none), "_law_three_right", "_law_three_right", defArgs s__law_three_right, defBody s__law_three_right, defScope s__law_three_right, [], []⟩
def dd__law_refusals_right : He.DefD := ⟨("_law_refusals_right", none), "_law_refusals_right", "_law_refusals_right", defArgs s__law_refusals_right, defBody s__law_refusals_right, defScope s__law_refusals_right, [], []⟩
def dd__law_right : He.DefD := ⟨("_law_right", none), "_law_right", "_law_right", defArgs s__law_right, defBody s__law_right, defScope s__law_right, [], []⟩
def dd_law : He.DefD := ⟨("law", none), "law", "law", defArgs s_law, defBody s_law, defScope s_law, [], []⟩
def di_Contradiction : He.DefD := ⟨("Contradiction", some "__init__"), "__init__", "Contradiction.__init__", defArgs (inSt (topS 1) 0), defBody (inSt (topS 1) 0), defScope (inSt (topS 1) 0), [], []⟩
def hfn : List He.DefD := [dd_is_number, dd_is_index, dd_count_in, dd_bounds_of, dd_evidence, dd_shows_evidence, dd_agree, dd_verdict, dd_is_evidence, dd_bounds_for, dd_is_within, dd_count_for, dd__law_cell_at, dd__law_box, dd__law_take, dd__law_of, dd__law_same, dd__law_refused, dd__law_three_right, dd__law_refusals_right, dd__law_right, dd_law, di_Contradiction]
def hfx : List Fx := [.xc "Contradiction" "evidence" .ve, .exm [(CD.own "Contradiction")] ["Contradiction"] ["Contradiction"]]
def hfa : List He.Fa := [.glo "is_number", .glo "is_index", .glo "count_in", .glo "bounds_of", .glo "evidence", .glo "shows_evidence", .glo "agree", .glo "verdict", .glo "is_evidence", .glo "bounds_for", .glo "is_within", .glo "count_for", .glo "_law_cell_at", .glo "_law_box", .glo "_law_take", .glo "_law_of", .glo "_law_same", .glo "_law_refused", .glo "_law_three_right", .glo "_law_refusals_right", .glo "_law_right", .glo "law", .free "isinstance", .free "int", .free "bool", .free "len", .free "range", .free "min", .free "tuple", .free "enumerate", .free "all", .free "zip", .free "any", .free "max", .free "abs", .free "list", .free "str"]
abbrev hR : PySem.W.OpenRow := PySem.W.OpenLaw.row PySem.Challenge.rw_enoughcame_k36_known_reports
def hn0 : List Str := ["Contradiction", "is_number", "is_index", "count_in", "bounds_of", "evidence", "shows_evidence", "agree", "verdict", "is_evidence", "bounds_for", "is_within", "count_for", "_law_cell_at", "_law_box", "_law_take", "_law_of", "_law_same", "_law_refused", "_law_three_right", "_law_refusals_right", "_law_right"]
def hnames : List Str := hn0
abbrev hk : PySem.W.Hook := Iv.hookX 6 hfa hfn hfx
def hob (s : PySem.W.SharedT) : Iv.AlX := Iv.obsXG 6 hfa hfn hfx (HandSHeadRun.getT s)
theorem hob_eq (s : PySem.W.SharedT) : hob s = hk.obs s.abs := Iv.obsXG_eq (HandSHeadRun.getT_eq s)
theorem hrun (w : World) : HandSHeadRun.RunEq hR (PySem.W.view hR.prog [26]) hk hob 4000 hnames w := by
  intro os
  kernel_rfl
theorem all_txt {K : PySem.W.Frag} {h : Heap} {mg : Str → Option Value} (X : K.In h) (G : h.Ns mainGlobals mg) (c : He.SaysD hfa hfn K) (cx : (hfx.all fun f => f.ok K) = true) : Txt K mg := by
  have x0 : PySem.Ivx.XcT K mg "Contradiction" "evidence" XB.ve.bm (He.ga K "Contradiction") (He.ma K (He.ga K "Contradiction") "__init__") := by
    obtain ⟨fd, F⟩ := c.def_ 22 (d := di_Contradiction) rfl
    exact xc_ok (b := .ve) X G (fx_at cx 0 rfl) F (by decide) (by decide) (fun _ _ _ _ _ _ _ _ => ⟨rfl, rfl⟩)
  exact {
    m_isinstance := He.free_ok X G (c.fact 22 (f := .free "isinstance") rfl),
    m_int := He.free_ok X G (c.fact 23 (f := .free "int") rfl),
    m_bool := He.free_ok X G (c.fact 24 (f := .free "bool") rfl),
    m_len := He.free_ok X G (c.fact 25 (f := .free "len") rfl),
    m_range := He.free_ok X G (c.fact 26 (f := .free "range") rfl),
    m_min := He.free_ok X G (c.fact 27 (f := .free "min") rfl),
    m_tuple := He.free_ok X G (c.fact 28 (f := .free "tuple") rfl),
    m_enumerate := He.free_ok X G (c.fact 29 (f := .free "enumerate") rfl),
    m_all := He.free_ok X G (c.fact 30 (f := .free "all") rfl),
    m_zip := He.free_ok X G (c.fact 31 (f := .free "zip") rfl),
    m_any := He.free_ok X G (c.fact 32 (f := .free "any") rfl),
    m_max := He.free_ok X G (c.fact 33 (f := .free "max") rfl),
    m_abs := He.free_ok X G (c.fact 34 (f := .free "abs") rfl),
    m_list := He.free_ok X G (c.fact 35 (f := .free "list") rfl),
    m_str := He.free_ok X G (c.fact 36 (f := .free "str") rfl),
    x_Contradiction := x0,
    a_evidence := by
      intro nm hm
      simp only [List.mem_cons, List.not_mem_nil, or_false] at hm
      rcases hm with rfl
      · exact ⟨_, _, x0⟩,
    e_0 := exm_ok (fx_at cx 1 rfl) }
theorem all_co {P : Program} {w : World} {K : PySem.W.Frag} {h : Heap} {mg : Str → Option Value} {base : Heap} (X : K.In h) (G : h.Ns mainGlobals mg) (c : He.SaysD hfa hfn K) (cx : (hfx.all fun f => f.ok K) = true) : ∀ k, AllCO P w K mg base k (Iv.runF Gam k) (caK K) := by
  have T := all_txt X G c cx
  obtain ⟨fd0, F0⟩ := c.def_ 0 (d := dd_is_number) rfl
  have m0 := He.glo_ok X G (c.fact 0 (f := .glo "is_number") rfl)
  obtain ⟨fd1, F1⟩ := c.def_ 1 (d := dd_is_index) rfl
  have m1 := He.glo_ok X G (c.fact 1 (f := .glo "is_index") rfl)
  obtain ⟨fd2, F2⟩ := c.def_ 2 (d := dd_count_in) rfl
  have m2 := He.glo_ok X G (c.fact 2 (f := .glo "count_in") rfl)
  obtain ⟨fd3, F3⟩ := c.def_ 3 (d := dd_bounds_of) rfl
  have m3 := He.glo_ok X G (c.fact 3 (f := .glo "bounds_of") rfl)
  obtain ⟨fd4, F4⟩ := c.def_ 4 (d := dd_evidence) rfl
  have m4 := He.glo_ok X G (c.fact 4 (f := .glo "evidence") rfl)
  obtain ⟨fd5, F5⟩ := c.def_ 5 (d := dd_shows_evidence) rfl
  have m5 := He.glo_ok X G (c.fact 5 (f := .glo "shows_evidence") rfl)
  obtain ⟨fd6, F6⟩ := c.def_ 6 (d := dd_agree) rfl
  have m6 := He.glo_ok X G (c.fact 6 (f := .glo "agree") rfl)
  obtain ⟨fd7, F7⟩ := c.def_ 7 (d := dd_verdict) rfl
  have m7 := He.glo_ok X G (c.fact 7 (f := .glo "verdict") rfl)
  obtain ⟨fd8, F8⟩ := c.def_ 8 (d := dd_is_evidence) rfl
  have m8 := He.glo_ok X G (c.fact 8 (f := .glo "is_evidence") rfl)
  obtain ⟨fd9, F9⟩ := c.def_ 9 (d := dd_bounds_for) rfl
  have m9 := He.glo_ok X G (c.fact 9 (f := .glo "bounds_for") rfl)
  obtain ⟨fd10, F10⟩ := c.def_ 10 (d := dd_is_within) rfl
  have m10 := He.glo_ok X G (c.fact 10 (f := .glo "is_within") rfl)
  obtain ⟨fd11, F11⟩ := c.def_ 11 (d := dd_count_for) rfl
  have m11 := He.glo_ok X G (c.fact 11 (f := .glo "count_for") rfl)
  obtain ⟨fd12, F12⟩ := c.def_ 12 (d := dd__law_cell_at) rfl
  have m12 := He.glo_ok X G (c.fact 12 (f := .glo "_law_cell_at") rfl)
  obtain ⟨fd13, F13⟩ := c.def_ 13 (d := dd__law_box) rfl
  have m13 := He.glo_ok X G (c.fact 13 (f := .glo "_law_box") rfl)
  obtain ⟨fd14, F14⟩ := c.def_ 14 (d := dd__law_take) rfl
  have m14 := He.glo_ok X G (c.fact 14 (f := .glo "_law_take") rfl)
  obtain ⟨fd15, F15⟩ := c.def_ 15 (d := dd__law_of) rfl
  have m15 := He.glo_ok X G (c.fact 15 (f := .glo "_law_of") rfl)
  obtain ⟨fd16, F16⟩ := c.def_ 16 (d := dd__law_same) rfl
  have m16 := He.glo_ok X G (c.fact 16 (f := .glo "_law_same") rfl)
  obtain ⟨fd17, F17⟩ := c.def_ 17 (d := dd__law_refused) rfl
  have m17 := He.glo_ok X G (c.fact 17 (f := .glo "_law_refused") rfl)
  obtain ⟨fd18, F18⟩ := c.def_ 18 (d := dd__law_three_right) rfl
  have m18 := He.glo_ok X G (c.fact 18 (f := .glo "_law_three_right") rfl)
  obtain ⟨fd19, F19⟩ := c.def_ 19 (d := dd__law_refusals_right) rfl
  have m19 := He.glo_ok X G (c.fact 19 (f := .glo "_law_refusals_right") rfl)
  obtain ⟨fd20, F20⟩ := c.def_ 20 (d := dd__law_right) rfl
  have m20 := He.glo_ok X G (c.fact 20 (f := .glo "_law_right") rfl)
  obtain ⟨fd21, F21⟩ := c.def_ 21 (d := dd_law) rfl
  have m21 := He.glo_ok X G (c.fact 21 (f := .glo "law") rfl)
  intro k
  induction k with
  | zero => exact ⟨Iv.co_zero m0 F0.kp (bn_is_number F0) (kw_is_number F0), Iv.co_zero m1 F1.kp (bn_is_index F1) (kw_is_index F1), Iv.co_zero m2 F2.kp (bn_count_in F2) (kw_count_in F2), Iv.co_zero m3 F3.kp (bn_bounds_of F3) (kw_bounds_of F3), Iv.co_zero m4 F4.kp (bn_evidence F4) (kw_evidence F4), Iv.co_zero m5 F5.kp (bn_shows_evidence F5) (kw_shows_evidence F5), Iv.co_zero m6 F6.kp (bn_agree F6) (kw_agree F6), Iv.co_zero m7 F7.kp (bn_verdict F7) (kw_verdict F7), Iv.co_zero m8 F8.kp (bn_is_evidence F8) (kw_is_evidence F8), Iv.co_zero m9 F9.kp (bn_bounds_for F9) (kw_bounds_for F9), Iv.co_zero m10 F10.kp (bn_is_within F10) (kw_is_within F10), Iv.co_zero m11 F11.kp (bn_count_for F11) (kw_count_for F11), Iv.co_zero m12 F12.kp (bn__law_cell_at F12) (kw__law_cell_at F12), Iv.co_zero m13 F13.kp (bn__law_box F13) (kw__law_box F13), Iv.co_zero m14 F14.kp (bn__law_take F14) (kw__law_take F14), Iv.co_zero m15 F15.kp (bn__law_of F15) (kw__law_of F15), Iv.co_zero m16 F16.kp (bn__law_same F16) (kw__law_same F16), Iv.co_zero m17 F17.kp (bn__law_refused F17) (kw__law_refused F17), Iv.co_zero m18 F18.kp (bn__law_three_right F18) (kw__law_three_right F18), Iv.co_zero m19 F19.kp (bn__law_refusals_right F19) (kw__law_refusals_right F19), Iv.co_zero m20 F20.kp (bn__law_right F20) (kw__law_right F20), Iv.co_zero m21 F21.kp (bn_law F21) (kw_law F21)⟩
  | succ k ih => exact ⟨⟨_, _, _, Iv.fn_sound g_is_number F0 sc_is_number (fun cdv A outer s H E hr hg => @Iv.SBx.go _ _ _ _ _ (d_is_number T ih cdv A outer s H E hr hg)), m0, F0.kp, bn_is_number F0, kw_is_number F0⟩, ⟨_, _, _, Iv.fn_sound g_is_index F1 sc_is_index (fun cdv A outer s H E hr hg => @Iv.SBx.go _ _ _ _ _ (d_is_index T ih cdv A outer s H E hr hg)), m1, F1.kp, bn_is_index F1, kw_is_index F1⟩, ⟨_, _, _, Iv.fn_sound g_count_in F2 sc_count_in (fun cdv A outer s H E hr hg => @Iv.SBx.go _ _ _ _ _ (d_count_in T ih cdv A outer s H E hr hg)), m2, F2.kp, bn_count_in F2, kw_count_in F2⟩, ⟨_, _, _, Iv.fn_sound g_bounds_of F3 sc_bounds_of (fun cdv A outer s H E hr hg => @Iv.SBx.go _ _ _ _ _ (d_bounds_of T ih cdv A outer s H E hr hg)), m3, F3.kp, bn_bounds_of F3, kw_bounds_of F3⟩, ⟨_, _, _, Iv.fn_sound g_evidence F4 sc_evidence (fun cdv A outer s H E hr hg => @Iv.SBx.go _ _ _ _ _ (d_evidence T ih cdv A outer s H E hr hg)), m4, F4.kp, bn_evidence F4, kw_evidence F4⟩, ⟨_, _, _, Iv.fn_sound g_shows_evidence F5 sc_shows_evidence (fun cdv A outer s H E hr hg => @Iv.SBx.go _ _ _ _ _ (d_shows_evidence T ih cdv A outer s H E hr hg)), m5, F5.kp, bn_shows_evidence F5, kw_shows_evidence F5⟩, ⟨_, _, _, Iv.fn_sound g_agree F6 sc_agree (fun cdv A outer s H E hr hg => @Iv.SBx.go _ _ _ _ _ (d_agree T ih cdv A outer s H E hr hg)), m6, F6.kp, bn_agree F6, kw_agree F6⟩, ⟨_, _, _, Iv.fn_sound g_verdict F7 sc_verdict (fun cdv A outer s H E hr hg => @Iv.SBx.go _ _ _ _ _ (d_verdict T ih cdv A outer s H E hr hg)), m7, F7.kp, bn_verdict F7, kw_verdict F7⟩, ⟨_, _, _, Iv.fn_sound g_is_evidence F8 sc_is_evidence (fun cdv A outer s H E hr hg => @Iv.SBx.go _ _ _ _ _ (d_is_evidence T ih cdv A outer s H E hr hg)), m8, F8.kp, bn_is_evidence F8, kw_is_evidence F8⟩, ⟨_, _, _, Iv.fn_sound g_bounds_for F9 sc_bounds_for (fun cdv A outer s H E hr hg => @Iv.SBx.go _ _ _ _ _ (d_bounds_for T ih cdv A outer s H E hr hg)), m9, F9.kp, bn_bounds_for F9, kw_bounds_for F9⟩, ⟨_, _, _, Iv.fn_sound g_is_within F10 sc_is_within (fun cdv A outer s H E hr hg => @Iv.SBx.go _ _ _ _ _ (d_is_within T ih cdv A outer s H E hr hg)), m10, F10.kp, bn_is_within F10, kw_is_within F10⟩, ⟨_, _, _, Iv.fn_sound g_count_for F11 sc_count_for (fun cdv A outer s H E hr hg => @Iv.SBx.go _ _ _ _ _ (d_count_for T ih cdv A outer s H E hr hg)), m11, F11.kp, bn_count_for F11, kw_count_for F11⟩, ⟨_, _, _, Iv.fn_sound g__law_cell_at F12 sc__law_cell_at (fun cdv A outer s H E hr hg => @Iv.SBx.go _ _ _ _ _ (d__law_cell_at T ih cdv A outer s H E hr hg)), m12, F12.kp, bn__law_cell_at F12, kw__law_cell_at F12⟩, ⟨_, _, _, Iv.fn_sound g__law_box F13 sc__law_box (fun cdv A outer s H E hr hg => @Iv.SBx.go _ _ _ _ _ (d__law_box T ih cdv A outer s H E hr hg)), m13, F13.kp, bn__law_box F13, kw__law_box F13⟩, ⟨_, _, _, Iv.fn_sound g__law_take F14 sc__law_take (fun cdv A outer s H E hr hg => @Iv.SBx.go _ _ _ _ _ (d__law_take T ih cdv A outer s H E hr hg)), m14, F14.kp, bn__law_take F14, kw__law_take F14⟩, ⟨_, _, _, Iv.fn_sound g__law_of F15 sc__law_of (fun cdv A outer s H E hr hg => @Iv.SBx.go _ _ _ _ _ (d__law_of T ih cdv A outer s H E hr hg)), m15, F15.kp, bn__law_of F15, kw__law_of F15⟩, ⟨_, _, _, Iv.fn_sound g__law_same F16 sc__law_same (fun cdv A outer s H E hr hg => @Iv.SBx.go _ _ _ _ _ (d__law_same T ih cdv A outer s H E hr hg)), m16, F16.kp, bn__law_same F16, kw__law_same F16⟩, ⟨_, _, _, Iv.fn_sound g__law_refused F17 sc__law_refused (fun cdv A outer s H E hr hg => @Iv.SBx.go _ _ _ _ _ (d__law_refused T ih cdv A outer s H E hr hg)), m17, F17.kp, bn__law_refused F17, kw__law_refused F17⟩, ⟨_, _, _, Iv.fn_sound g__law_three_right F18 sc__law_three_right (fun cdv A outer s H E hr hg => @Iv.SBx.go _ _ _ _ _ (d__law_three_right T ih cdv A outer s H E hr hg)), m18, F18.kp, bn__law_three_right F18, kw__law_three_right F18⟩, ⟨_, _, _, Iv.fn_sound g__law_refusals_right F19 sc__law_refusals_right (fun cdv A outer s H E hr hg => @Iv.SBx.go _ _ _ _ _ (d__law_refusals_right T ih cdv A outer s H E hr hg)), m19, F19.kp, bn__law_refusals_right F19, kw__law_refusals_right F19⟩, ⟨_, _, _, Iv.fn_sound g__law_right F20 sc__law_right (fun cdv A outer s H E hr hg => @Iv.SBx.go _ _ _ _ _ (d__law_right T ih cdv A outer s H E hr hg)), m20, F20.kp, bn__law_right F20, kw__law_right F20⟩, ⟨_, _, _, Iv.fn_sound g_law F21 sc_law (fun cdv A outer s H E hr hg => @Iv.SBx.go _ _ _ _ _ (d_law T ih cdv A outer s H E hr hg)), m21, F21.kp, bn_law F21, kw_law F21⟩⟩
theorem law_ok {P : Program} {w : World} {K : PySem.W.Frag} {h : Heap} {mg : Str → Option Value} {f : Addr} (X : K.In h) (G : h.Ns mainGlobals mg) (hm : mg ("law" : Str) = some (.ref f)) (c : He.SaysD hfa hfn K) (cx : (hfx.all fun f => f.ok K) = true) (k : Nat) :
    ∃ fd : FuncData, (∀ (s : Shared) (v : Value), BindsTo s fd ⟨[v], []⟩ [("_law_script", v)]) ∧ ∀ base : Heap, K.In base → base.Ns mainGlobals mg → Iv.Fok P w K mg base (k + 1) f fd ["_law_script"] (Iv.spO K (Iv.runF Gam (k + 1)) (caK K) "law") := by
  obtain ⟨fd, F⟩ := c.def_ 21 (d := dd_law) rfl
  have e := hm.symm.trans (He.glo_ok X G (c.fact 21 (f := .glo "law") rfl))
  cases e
  have T := all_txt X G c cx
  have b := FunD.bindsA (ps := ["_law_script"]) F fun _ _ _ _ _ _ us hl => match us, hl with | [_], _ => rfl
  exact ⟨fd, fun s v => b s [v] rfl, fun base _ _ => Iv.fn_sound g_law F sc_law (fun cdv A outer s H E hr hg => @Iv.SBx.go _ _ _ _ _ (d_law T (all_co X G c cx k) cdv A outer s H E hr hg))⟩
end Lw
open PySem PySem.W PySem.Calls PyProof.Rows
theorem Lw.ends (k : Nat) (hk : L2.Room (k + 1) callerA) (main : ∀ ns : List Int, ns.length ≤ 63 → Iv.runF Lw.Gam (k + 1) "law" [.d (.dict [(.none, .list (ns.map .int))])] = .ok (.dat (.bool true), [])) : PySem.Challenge.rw_enoughcame_k36_known_reports.Holds := by
  w_on; o_law
  refine HandSHeadRun.head_any (r := OpenLaw.row PySem.Challenge.rw_enoughcame_k36_known_reports) (q := view (OpenLaw.row PySem.Challenge.rw_enoughcame_k36_known_reports).prog [26]) (H := Lw.hk) (ob := Lw.hob) (M := 4000) (loose := Lw.hnames) (d := HandSHeadRun.topDef (OpenLaw.row PySem.Challenge.rw_enoughcame_k36_known_reports).prog 26) (kwd := []) Lw.hob_eq
    (by kernel_rfl) (fun s => by kernel_rfl) Lw.hrun (by kernel_rfl) (by kernel_rfl) (by kernel_rfl) (by rfl) (by first | assumption | decide +kernel) (by decide +kernel) ⟨rfl, rfl, rfl, rfl, rfl, by decide +kernel⟩ ?hw ?hc
  case hw => w_witness2
  case hc =>
    refine Iv.walk_law (l := PySem.Challenge.rw_enoughcame_k36_known_reports) (n := 63) (k := k + 1) (x := "_law_script") rfl (by decide) (by kernel_rfl) hk ?F
    intro w mg fa h Y G hmg0
    obtain ⟨K, KX, c, cx⟩ := Y
    have hmg : mg ("law" : PySem.Str) = some (.ref fa) := by
      have e : (HandSHeadRun.topDef (OpenLaw.row PySem.Challenge.rw_enoughcame_k36_known_reports).prog 26).name = ("law" : PySem.Str) := by kernel_rfl
      rw [← e]
      exact hmg0
    obtain ⟨fd, hb, hF⟩ := Lw.law_ok (P := (PySem.Challenge.rw_enoughcame_k36_known_reports).prog) (w := w) KX G hmg c cx k
    exact ⟨K, fd, Iv.spO K (Iv.runF Lw.Gam (k + 1)) (Lw.caK K) "law", KX, hb, fun H a ns hl _ hS => Iv.script_sp hS (main ns hl), hF⟩
end

section
set_option Elab.async false
set_option linter.all false
set_option maxRecDepth 100000
set_option maxHeartbeats 2000000
namespace Us
open PySem (Str PyData)
open L2 (atI ixN)
open Iv

/-! ### the draws -/
def F_cell_at : Fn := ⟨["_law_script", "_law_k"], ["_law_script", "_law_k"], [], .seq (.cond (.cm .lt (.var 1) (.b1 .len (.var 0))) (.ret (.ix (.var 0) (.var 1))) (.skip)) (.ret (.c (.int 0)))⟩
def F_box : Fn := ⟨["_law_script", "_law_k"], ["_law_script", "_law_k", "_law_core"], [], .seq (.set 2 (.call "_law_cell_at" (.cons (.var 0) (.cons (.var 1) (.nil))))) (.ret (.lst (.cons (.op .mul (.b1 .abs (.var 2)) (.b1 .int (.cm .ge (.b1 .abs (.var 2)) (.op .pow (.c (.int 10)) (.c (.int 18)))))) (.cons (.op .add (.op .add (.op .mod (.var 2) (.c (.int 2305843009213693951))) (.op .mul (.c (.int 39373)) (.var 1))) (.c (.int 29))) (.cons (.c (.int 0)) (.nil))))))⟩
def take0 : C := .cond (.cm .gt (.ix (.var 0) (.c (.int 0))) (.c (.int 0))) (.seq (.set 4 (.op .mod (.ix (.var 0) (.c (.int 0))) (.var 1))) (.seq (.put 0 (.c (.int 0)) (.op .fdiv (.ix (.var 0) (.c (.int 0))) (.var 1))) (.ret (.var 4)))) (.skip)
def take1 : C := .cond (.cm .gt (.var 1) (.op .pow (.c (.int 10)) (.c (.int 7)))) (.ret (.op .mod (.op .add (.call "_law_take" (.cons (.ref 0) (.cons (.op .pow (.c (.int 10)) (.c (.int 7))) (.nil)))) (.op .mul (.op .pow (.c (.int 10)) (.c (.int 7))) (.call "_law_take" (.cons (.ref 0) (.cons (.op .add (.op .fdiv (.var 1) (.op .pow (.c (.int 10)) (.c (.int 7)))) (.c (.int 1))) (.nil)))))) (.var 1))) (.skip)
def take2 : C := .put 0 (.c (.int 2)) (.op .add (.ix (.var 0) (.c (.int 2))) (.c (.int 1)))
def take3 : C := .set 2 (.op .mod (.op .mul (.op .add (.ix (.var 0) (.c (.int 1))) (.op .mul (.c (.int 48271)) (.ix (.var 0) (.c (.int 2))))) (.op .add (.c (.int 39373)) (.ix (.var 0) (.c (.int 2))))) (.c (.int 2147483647)))
def take4 : C := .set 3 (.op .mod (.op .mul (.op .add (.op .add (.var 2) (.ix (.var 0) (.c (.int 2)))) (.op .fdiv (.ix (.var 0) (.c (.int 1))) (.c (.int 1000003)))) (.op .add (.op .mod (.var 2) (.c (.int 40009))) (.c (.int 7)))) (.c (.int 2147483629)))
def take5 : C := .ret (.op .mod (.op .fdiv (.op .mod (.op .add (.op .mul (.var 3) (.c (.int 48271))) (.var 2)) (.c (.int 2147483587))) (.c (.int 64))) (.var 1))
def F_take : Fn := ⟨["_law_box_here", "_law_below"], ["_law_box_here", "_law_below", "_law_once", "_law_twice", "_law_found"], [0], .seq take0 (.seq take1 (.seq take2 (.seq take3 (.seq take4 take5))))⟩

section
variable {Γ : Str → Option Fn}
theorem run_eq {f : Str} {fn : Fn} (h : Γ f = some fn) (k : Nat) (args : List PArg) : runF Γ (k + 1) f args = fnGo (runF Γ k) fn args := by
  show (match Γ f with
    | some fn => fnGo (runF Γ k) fn args
    | none => .bad) = _
  rw [h]
/-! the steps; calls, comprehensions and loops stand -/
theorem v_var {cl : Orc} {i : Nat} {ρ : En} : ev cl (.var i) ρ = match ρ[i]? with
    | some (.dat d) => .ok (.dat d, ρ)
    | some (.own ds) => .ok (.dat (.list ds), ρ.set i (.dat (.list ds)))
    | _ => .bad := Eq.trans rfl rfl
theorem v_c {cl : Orc} {d : PyData} {ρ : En} : ev cl (.c d) ρ = .ok (.dat d, ρ) := Eq.trans rfl rfl
theorem v_op {cl : Orc} {o : Op} {a b : E} {ρ : En} : ev cl (.op o a b) ρ = bnd (vwOf a ρ (ev cl a ρ)) fun x ρ1 => bnd (vwOf b ρ1 (ev cl b ρ1)) fun y ρ2 => match reD a ρ2 x with
    | some x => ofO ρ2 (opD o x y)
    | none => .bad := Eq.trans rfl rfl
theorem v_cm {cl : Orc} {o : Cm} {a b : E} {ρ : En} : ev cl (.cm o a b) ρ = bnd (vwOf a ρ (ev cl a ρ)) fun x ρ1 => bnd (vwOf b ρ1 (ev cl b ρ1)) fun y ρ2 => match reD a ρ2 x with
    | some x => ofO ρ2 ((cmD o x y).map fun b => .dat (.bool b))
    | none => .bad := Eq.trans rfl rfl
theorem v_ch {cl : Orc} {o o' : Cm} {a b c : E} {ρ : En} : ev cl (.ch o o' a b c) ρ = bnd (vwOf a ρ (ev cl a ρ)) fun x ρ1 => bnd (vwOf b ρ1 (ev cl b ρ1)) fun y ρ2 => match x, y with
    | .int i, .int j => match cmI o i j with
      | some true => bnd (vwOf c ρ2 (ev cl c ρ2)) fun z ρ3 => match z with
        | .int k => ofO ρ3 ((cmI o' j k).map fun b => .dat (.bool b))
        | _ => .bad
      | some false => .ok (.dat (.bool false), ρ2)
      | none => .bad
    | _, _ => .bad := Eq.trans rfl rfl
theorem v_neg {cl : Orc} {a : E} {ρ : En} : ev cl (.neg a) ρ = bnd (ev cl a ρ) fun v ρ1 => match v with
    | .dat (.int i) => .ok (.dat (.int (-i)), ρ1)
    | _ => .bad := Eq.trans rfl rfl
theorem v_and {cl : Orc} {a b : E} {ρ : En} : ev cl (.and a b) ρ = bnd (ev cl a ρ) fun v ρ1 => match v with
    | .dat (.bool true) => ev cl b ρ1
    | .dat (.bool false) => .ok (.dat (.bool false), ρ1)
    | _ => .bad := Eq.trans rfl rfl
theorem v_or {cl : Orc} {a b : E} {ρ : En} : ev cl (.or a b) ρ = bnd (ev cl a ρ) fun v ρ1 => match v with
    | .dat (.bool true) => .ok (.dat (.bool true), ρ1)
    | .dat (.bool false) => ev cl b ρ1
    | _ => .bad := Eq.trans rfl rfl
theorem v_not {cl : Orc} {a : E} {ρ : En} : ev cl (.not a) ρ = bnd (ev cl a ρ) fun v ρ1 => match v with
    | .dat (.bool b) => .ok (.dat (.bool (!b)), ρ1)
    | _ => .bad := Eq.trans rfl rfl
theorem v_ite {cl : Orc} {t a b : E} {ρ : En} : ev cl (.ite t a b) ρ = bnd (ev cl t ρ) fun v ρ1 => match v with
    | .dat (.bool true) => ev cl a ρ1
    | .dat (.bool false) => ev cl b ρ1
    | _ => .bad := Eq.trans rfl rfl
theorem v_tup {cl : Orc} {es : E} {ρ : En} : ev cl (.tup es) ρ = bnd (evs cl es ρ) fun as ρ1 => match argsD as with
    | some ds => if ds.length ≤ big then .ok (.dat (.tuple ds), ρ1) else .bad
    | none => .bad := Eq.trans rfl rfl
theorem v_lst {cl : Orc} {es : E} {ρ : En} : ev cl (.lst es) ρ = bnd (evs cl es ρ) fun as ρ1 => match argsD as with
    | some ds => if ds.length ≤ big then .ok (.new ds, ρ1) else .bad
    | none => .bad := Eq.trans rfl rfl
theorem v_ix {cl : Orc} {a b : E} {ρ : En} : ev cl (.ix a b) ρ = bnd (vwOf a ρ (ev cl a ρ)) fun x ρ1 => bnd (vwOf b ρ1 (ev cl b ρ1)) fun y ρ2 => match reD a ρ2 x with
    | some x => ofO ρ2 ((ixD x y).map .dat)
    | none => .bad := Eq.trans rfl rfl
theorem v_b1 {cl : Orc} {o : B1} {a : E} {ρ : En} : ev cl (.b1 o a) ρ = bnd (vwOf a ρ (ev cl a ρ)) fun x ρ1 => ofO ρ1 (b1D o x) := Eq.trans rfl rfl
theorem v_rev {cl : Orc} {a : E} {ρ : En} : ev cl (.rev a) ρ = bnd (vwOf a ρ (ev cl a ρ)) fun x ρ1 => ofO ρ1 (revD x) := Eq.trans rfl rfl
theorem v_min2 {cl : Orc} {a b : E} {ρ : En} : ev cl (.min2 a b) ρ = bnd (ev cl a ρ) fun u ρ1 => bnd (ev cl b ρ1) fun v ρ2 => match u, v with
    | .dat (.int i), .dat (.int j) => .ok (.dat (.int (if j < i then j else i)), ρ2)
    | _, _ => .bad := Eq.trans rfl rfl
theorem v_max2 {cl : Orc} {a b : E} {ρ : En} : ev cl (.max2 a b) ρ = bnd (ev cl a ρ) fun u ρ1 => bnd (ev cl b ρ1) fun v ρ2 => match u, v with
    | .dat (.int i), .dat (.int j) => .ok (.dat (.int (if j > i then j else i)), ρ2)
    | _, _ => .bad := Eq.trans rfl rfl
theorem v_isi {cl : Orc} {a : E} {ts : List Ty} {ρ : En} : ev cl (.isi a ts) ρ = bnd (vwOf a ρ (ev cl a ρ)) fun x ρ1 => if (dTy x).isSome then .ok (.dat (.bool (ts.any (tyD x))), ρ1) else .bad := Eq.trans rfl rfl
theorem a_nil {cl : Orc}  {ρ : En} : evs cl .nil ρ = .ok ([], ρ) := Eq.trans rfl rfl
theorem a_ref {cl : Orc} {i : Nat} {r : E} {ρ : En} : evs cl (.cons (.ref i) r) ρ = match ρ[i]? with
    | some (.own _) => bnd (evs cl r ρ) fun as ρ1 => .ok (.r i :: as, ρ1)
    | _ => .bad := Eq.trans rfl rfl
theorem a_var {cl : Orc} {i : Nat} {r : E} {ρ : En} : evs cl (.cons (.var i) r) ρ = bnd (ev cl (.var i) ρ) fun v ρ1 => bnd (evs cl r ρ1) fun as ρ2 => .ok (.d v.d :: as, ρ2) := Eq.trans rfl rfl
theorem a_c {cl : Orc} {d : PyData} {r : E} {ρ : En} : evs cl (.cons (.c d) r) ρ = bnd (ev cl (.c d) ρ) fun v ρ1 => bnd (evs cl r ρ1) fun as ρ2 => .ok (.d v.d :: as, ρ2) := Eq.trans rfl rfl
theorem a_op {cl : Orc} {o : Op} {a b : E} {r : E} {ρ : En} : evs cl (.cons (.op o a b) r) ρ = bnd (ev cl (.op o a b) ρ) fun v ρ1 => bnd (evs cl r ρ1) fun as ρ2 => .ok (.d v.d :: as, ρ2) := Eq.trans rfl rfl
theorem a_cm {cl : Orc} {o : Cm} {a b : E} {r : E} {ρ : En} : evs cl (.cons (.cm o a b) r) ρ = bnd (ev cl (.cm o a b) ρ) fun v ρ1 => bnd (evs cl r ρ1) fun as ρ2 => .ok (.d v.d :: as, ρ2) := Eq.trans rfl rfl
theorem a_ch {cl : Orc} {o o' : Cm} {a b c : E} {r : E} {ρ : En} : evs cl (.cons (.ch o o' a b c) r) ρ = bnd (ev cl (.ch o o' a b c) ρ) fun v ρ1 => bnd (evs cl r ρ1) fun as ρ2 => .ok (.d v.d :: as, ρ2) := Eq.trans rfl rfl
theorem a_neg {cl : Orc} {a : E} {r : E} {ρ : En} : evs cl (.cons (.neg a) r) ρ = bnd (ev cl (.neg a) ρ) fun v ρ1 => bnd (evs cl r ρ1) fun as ρ2 => .ok (.d v.d :: as, ρ2) := Eq.trans rfl rfl
theorem a_and {cl : Orc} {a b : E} {r : E} {ρ : En} : evs cl (.cons (.and a b) r) ρ = bnd (ev cl (.and a b) ρ) fun v ρ1 => bnd (evs cl r ρ1) fun as ρ2 => .ok (.d v.d :: as, ρ2) := Eq.trans rfl rfl
theorem a_or {cl : Orc} {a b : E} {r : E} {ρ : En} : evs cl (.cons (.or a b) r) ρ = bnd (ev cl (.or a b) ρ) fun v ρ1 => bnd (evs cl r ρ1) fun as ρ2 => .ok (.d v.d :: as, ρ2) := Eq.trans rfl rfl
theorem a_not {cl : Orc} {a : E} {r : E} {ρ : En} : evs cl (.cons (.not a) r) ρ = bnd (ev cl (.not a) ρ) fun v ρ1 => bnd (evs cl r ρ1) fun as ρ2 => .ok (.d v.d :: as, ρ2) := Eq.trans rfl rfl
theorem a_ite {cl : Orc} {t a b : E} {r : E} {ρ : En} : evs cl (.cons (.ite t a b) r) ρ = bnd (ev cl (.ite t a b) ρ) fun v ρ1 => bnd (evs cl r ρ1) fun as ρ2 => .ok (.d v.d :: as, ρ2) := Eq.trans rfl rfl
theorem a_tup {cl : Orc} {a : E} {r : E} {ρ : En} : evs cl (.cons (.tup a) r) ρ = bnd (ev cl (.tup a) ρ) fun v ρ1 => bnd (evs cl r ρ1) fun as ρ2 => .ok (.d v.d :: as, ρ2) := Eq.trans rfl rfl
theorem a_lst {cl : Orc} {a : E} {r : E} {ρ : En} : evs cl (.cons (.lst a) r) ρ = bnd (ev cl (.lst a) ρ) fun v ρ1 => bnd (evs cl r ρ1) fun as ρ2 => .ok (.d v.d :: as, ρ2) := Eq.trans rfl rfl
theorem a_ix {cl : Orc} {a b : E} {r : E} {ρ : En} : evs cl (.cons (.ix a b) r) ρ = bnd (ev cl (.ix a b) ρ) fun v ρ1 => bnd (evs cl r ρ1) fun as ρ2 => .ok (.d v.d :: as, ρ2) := Eq.trans rfl rfl
theorem a_sl {cl : Orc} {a b c : E} {r : E} {ρ : En} : evs cl (.cons (.sl a b c) r) ρ = bnd (ev cl (.sl a b c) ρ) fun v ρ1 => bnd (evs cl r ρ1) fun as ρ2 => .ok (.d v.d :: as, ρ2) := Eq.trans rfl rfl
theorem a_call {cl : Orc} {f : Str} {a : E} {r : E} {ρ : En} : evs cl (.cons (.call f a) r) ρ = bnd (ev cl (.call f a) ρ) fun v ρ1 => bnd (evs cl r ρ1) fun as ρ2 => .ok (.d v.d :: as, ρ2) := Eq.trans rfl rfl
theorem a_callk {cl : Orc} {f : Str} {a : E} {p : List Nat} {r : E} {ρ : En} : evs cl (.cons (.callk f a p) r) ρ = bnd (ev cl (.callk f a p) ρ) fun v ρ1 => bnd (evs cl r ρ1) fun as ρ2 => .ok (.d v.d :: as, ρ2) := Eq.trans rfl rfl
theorem a_rev {cl : Orc} {a : E} {r : E} {ρ : En} : evs cl (.cons (.rev a) r) ρ = bnd (ev cl (.rev a) ρ) fun v ρ1 => bnd (evs cl r ρ1) fun as ρ2 => .ok (.d v.d :: as, ρ2) := Eq.trans rfl rfl
theorem a_b1 {cl : Orc} {o : B1} {a : E} {r : E} {ρ : En} : evs cl (.cons (.b1 o a) r) ρ = bnd (ev cl (.b1 o a) ρ) fun v ρ1 => bnd (evs cl r ρ1) fun as ρ2 => .ok (.d v.d :: as, ρ2) := Eq.trans rfl rfl
theorem a_min2 {cl : Orc} {a b : E} {r : E} {ρ : En} : evs cl (.cons (.min2 a b) r) ρ = bnd (ev cl (.min2 a b) ρ) fun v ρ1 => bnd (evs cl r ρ1) fun as ρ2 => .ok (.d v.d :: as, ρ2) := Eq.trans rfl rfl
theorem a_max2 {cl : Orc} {a b : E} {r : E} {ρ : En} : evs cl (.cons (.max2 a b) r) ρ = bnd (ev cl (.max2 a b) ρ) fun v ρ1 => bnd (evs cl r ρ1) fun as ρ2 => .ok (.d v.d :: as, ρ2) := Eq.trans rfl rfl
theorem a_isi {cl : Orc} {a : E} {ts : List Ty} {r : E} {ρ : En} : evs cl (.cons (.isi a ts) r) ρ = bnd (ev cl (.isi a ts) ρ) fun v ρ1 => bnd (evs cl r ρ1) fun as ρ2 => .ok (.d v.d :: as, ρ2) := Eq.trans rfl rfl
theorem a_pop {cl : Orc} {i : Nat} {a : E} {r : E} {ρ : En} : evs cl (.cons (.pop i a) r) ρ = bnd (ev cl (.pop i a) ρ) fun v ρ1 => bnd (evs cl r ρ1) fun as ρ2 => .ok (.d v.d :: as, ρ2) := Eq.trans rfl rfl
theorem a_comp {cl : Orc} {k : Src} {s t e : E} {tg : Tg} {r : E} {ρ : En} : evs cl (.cons (.comp k s tg t e) r) ρ = bnd (ev cl (.comp k s tg t e) ρ) fun v ρ1 => bnd (evs cl r ρ1) fun as ρ2 => .ok (.d v.d :: as, ρ2) := Eq.trans rfl rfl
theorem w_skip {cl : Orc} {P : List Nat}  {ρ : En} : exec cl P .skip ρ = .ok (.next ρ) := Eq.trans rfl rfl
theorem w_seq {cl : Orc} {P : List Nat} {a b : C} {ρ : En} : exec cl P (.seq a b) ρ = thenO (exec cl P a ρ) (exec cl P b) := Eq.trans rfl rfl
theorem w_set {cl : Orc} {P : List Nat} {i : Nat} {e : E} {ρ : En} : exec cl P (.set i e) ρ = if i ∈ P then .bad else bndO (ev cl e ρ) fun v ρ1 => .ok (.next (ρ1.set i v.slot)) := Eq.trans rfl rfl
theorem w_par2 {cl : Orc} {P : List Nat} {i j : Nat} {a b : E} {ρ : En} : exec cl P (.par2 i j a b) ρ = if i ∈ P ∨ j ∈ P then .bad else bndO (ev cl a ρ) fun u ρ1 => bndO (ev cl b ρ1) fun v ρ2 => .ok (.next ((ρ2.set i u.slot).set j v.slot)) := Eq.trans rfl rfl
theorem w_unp {cl : Orc} {P : List Nat} {tg : Tg} {e : E} {ρ : En} : exec cl P (.unp tg e) ρ = if tg.slots.any (fun i => decide (i ∈ P)) then .bad else bndO (ev cl e ρ) fun v ρ1 => match tgGo tg v.d ρ1 with
    | some ρ2 => .ok (.next ρ2)
    | none => .bad := Eq.trans rfl rfl
theorem w_ret {cl : Orc} {P : List Nat} {e : E} {ρ : En} : exec cl P (.ret e) ρ = retGo cl e ρ := Eq.trans rfl rfl
theorem w_cond {cl : Orc} {P : List Nat} {t : E} {a b : C} {ρ : En} : exec cl P (.cond t a b) ρ = bndO (ev cl t ρ) fun v ρ1 => match v with
    | .dat (.bool true) => exec cl P a ρ1
    | .dat (.bool false) => exec cl P b ρ1
    | _ => .bad := Eq.trans rfl rfl
theorem w_brk {cl : Orc} {P : List Nat}  {ρ : En} : exec cl P .brk ρ = .ok (.brk ρ) := Eq.trans rfl rfl
theorem w_cont {cl : Orc} {P : List Nat}  {ρ : En} : exec cl P .cont ρ = .ok (.cont ρ) := Eq.trans rfl rfl
theorem w_app {cl : Orc} {P : List Nat} {i : Nat} {e : E} {ρ : En} : exec cl P (.app i e) ρ = if ownAt ρ i then bndO (ev cl e ρ) fun v ρ1 => match ρ1[i]? with
      | some (.own ds) => if ds.length < big then .ok (.next (ρ1.set i (.own (ds ++ [v.d])))) else .bad
      | _ => .bad
    else .bad := Eq.trans rfl rfl
theorem w_put {cl : Orc} {P : List Nat} {i : Nat} {j e : E} {ρ : En} : exec cl P (.put i j e) ρ = bndO (ev cl e ρ) fun v ρ1 => if ownAt ρ1 i then bndO (ev cl j ρ1) fun w ρ2 => match w, ρ2[i]? with
      | .dat (.int n), some (.own ds) => match ixN ds.length n with
        | some k => .ok (.next (ρ2.set i (.own (ds.set k v.d))))
        | none => .bad
      | _, _ => .bad
    else .bad := Eq.trans rfl rfl
theorem w_drop {cl : Orc} {P : List Nat} {e : E} {ρ : En} : exec cl P (.drop e) ρ = bndO (ev cl e ρ) fun _ ρ1 => .ok (.next ρ1) := Eq.trans rfl rfl
/-! names by their places -/
theorem zs0 {a0 : Slot} {l : En} : (a0 :: l)[0]? = some a0 := rfl
theorem zs1 {a0 a1 : Slot} {l : En} : (a0 :: a1 :: l)[1]? = some a1 := rfl
theorem zs2 {a0 a1 a2 : Slot} {l : En} : (a0 :: a1 :: a2 :: l)[2]? = some a2 := rfl
theorem zs3 {a0 a1 a2 a3 : Slot} {l : En} : (a0 :: a1 :: a2 :: a3 :: l)[3]? = some a3 := rfl
theorem zs4 {a0 a1 a2 a3 a4 : Slot} {l : En} : (a0 :: a1 :: a2 :: a3 :: a4 :: l)[4]? = some a4 := rfl
theorem zs5 {a0 a1 a2 a3 a4 a5 : Slot} {l : En} : (a0 :: a1 :: a2 :: a3 :: a4 :: a5 :: l)[5]? = some a5 := rfl
theorem zs6 {a0 a1 a2 a3 a4 a5 a6 : Slot} {l : En} : (a0 :: a1 :: a2 :: a3 :: a4 :: a5 :: a6 :: l)[6]? = some a6 := rfl
theorem zs7 {a0 a1 a2 a3 a4 a5 a6 a7 : Slot} {l : En} : (a0 :: a1 :: a2 :: a3 :: a4 :: a5 :: a6 :: a7 :: l)[7]? = some a7 := rfl
theorem zs8 {a0 a1 a2 a3 a4 a5 a6 a7 a8 : Slot} {l : En} : (a0 :: a1 :: a2 :: a3 :: a4 :: a5 :: a6 :: a7 :: a8 :: l)[8]? = some a8 := rfl
theorem zs9 {a0 a1 a2 a3 a4 a5 a6 a7 a8 a9 : Slot} {l : En} : (a0 :: a1 :: a2 :: a3 :: a4 :: a5 :: a6 :: a7 :: a8 :: a9 :: l)[9]? = some a9 := rfl
theorem zs10 {a0 a1 a2 a3 a4 a5 a6 a7 a8 a9 a10 : Slot} {l : En} : (a0 :: a1 :: a2 :: a3 :: a4 :: a5 :: a6 :: a7 :: a8 :: a9 :: a10 :: l)[10]? = some a10 := rfl
theorem zs11 {a0 a1 a2 a3 a4 a5 a6 a7 a8 a9 a10 a11 : Slot} {l : En} : (a0 :: a1 :: a2 :: a3 :: a4 :: a5 :: a6 :: a7 :: a8 :: a9 :: a10 :: a11 :: l)[11]? = some a11 := rfl
theorem zs12 {a0 a1 a2 a3 a4 a5 a6 a7 a8 a9 a10 a11 a12 : Slot} {l : En} : (a0 :: a1 :: a2 :: a3 :: a4 :: a5 :: a6 :: a7 :: a8 :: a9 :: a10 :: a11 :: a12 :: l)[12]? = some a12 := rfl
theorem zs13 {a0 a1 a2 a3 a4 a5 a6 a7 a8 a9 a10 a11 a12 a13 : Slot} {l : En} : (a0 :: a1 :: a2 :: a3 :: a4 :: a5 :: a6 :: a7 :: a8 :: a9 :: a10 :: a11 :: a12 :: a13 :: l)[13]? = some a13 := rfl
theorem zt0 {a0 b : Slot} {l : En} : (a0 :: l).set 0 b = b :: l := rfl
theorem zt1 {a0 a1 b : Slot} {l : En} : (a0 :: a1 :: l).set 1 b = a0 :: b :: l := rfl
theorem zt2 {a0 a1 a2 b : Slot} {l : En} : (a0 :: a1 :: a2 :: l).set 2 b = a0 :: a1 :: b :: l := rfl
theorem zt3 {a0 a1 a2 a3 b : Slot} {l : En} : (a0 :: a1 :: a2 :: a3 :: l).set 3 b = a0 :: a1 :: a2 :: b :: l := rfl
theorem zt4 {a0 a1 a2 a3 a4 b : Slot} {l : En} : (a0 :: a1 :: a2 :: a3 :: a4 :: l).set 4 b = a0 :: a1 :: a2 :: a3 :: b :: l := rfl
theorem zt5 {a0 a1 a2 a3 a4 a5 b : Slot} {l : En} : (a0 :: a1 :: a2 :: a3 :: a4 :: a5 :: l).set 5 b = a0 :: a1 :: a2 :: a3 :: a4 :: b :: l := rfl
theorem zt6 {a0 a1 a2 a3 a4 a5 a6 b : Slot} {l : En} : (a0 :: a1 :: a2 :: a3 :: a4 :: a5 :: a6 :: l).set 6 b = a0 :: a1 :: a2 :: a3 :: a4 :: a5 :: b :: l := rfl
theorem zt7 {a0 a1 a2 a3 a4 a5 a6 a7 b : Slot} {l : En} : (a0 :: a1 :: a2 :: a3 :: a4 :: a5 :: a6 :: a7 :: l).set 7 b = a0 :: a1 :: a2 :: a3 :: a4 :: a5 :: a6 :: b :: l := rfl
theorem zt8 {a0 a1 a2 a3 a4 a5 a6 a7 a8 b : Slot} {l : En} : (a0 :: a1 :: a2 :: a3 :: a4 :: a5 :: a6 :: a7 :: a8 :: l).set 8 b = a0 :: a1 :: a2 :: a3 :: a4 :: a5 :: a6 :: a7 :: b :: l := rfl
theorem zt9 {a0 a1 a2 a3 a4 a5 a6 a7 a8 a9 b : Slot} {l : En} : (a0 :: a1 :: a2 :: a3 :: a4 :: a5 :: a6 :: a7 :: a8 :: a9 :: l).set 9 b = a0 :: a1 :: a2 :: a3 :: a4 :: a5 :: a6 :: a7 :: a8 :: b :: l := rfl
theorem zt10 {a0 a1 a2 a3 a4 a5 a6 a7 a8 a9 a10 b : Slot} {l : En} : (a0 :: a1 :: a2 :: a3 :: a4 :: a5 :: a6 :: a7 :: a8 :: a9 :: a10 :: l).set 10 b = a0 :: a1 :: a2 :: a3 :: a4 :: a5 :: a6 :: a7 :: a8 :: a9 :: b :: l := rfl
theorem zt11 {a0 a1 a2 a3 a4 a5 a6 a7 a8 a9 a10 a11 b : Slot} {l : En} : (a0 :: a1 :: a2 :: a3 :: a4 :: a5 :: a6 :: a7 :: a8 :: a9 :: a10 :: a11 :: l).set 11 b = a0 :: a1 :: a2 :: a3 :: a4 :: a5 :: a6 :: a7 :: a8 :: a9 :: a10 :: b :: l := rfl
theorem zt12 {a0 a1 a2 a3 a4 a5 a6 a7 a8 a9 a10 a11 a12 b : Slot} {l : En} : (a0 :: a1 :: a2 :: a3 :: a4 :: a5 :: a6 :: a7 :: a8 :: a9 :: a10 :: a11 :: a12 :: l).set 12 b = a0 :: a1 :: a2 :: a3 :: a4 :: a5 :: a6 :: a7 :: a8 :: a9 :: a10 :: a11 :: b :: l := rfl
theorem zt13 {a0 a1 a2 a3 a4 a5 a6 a7 a8 a9 a10 a11 a12 a13 b : Slot} {l : En} : (a0 :: a1 :: a2 :: a3 :: a4 :: a5 :: a6 :: a7 :: a8 :: a9 :: a10 :: a11 :: a12 :: a13 :: l).set 13 b = a0 :: a1 :: a2 :: a3 :: a4 :: a5 :: a6 :: a7 :: a8 :: a9 :: a10 :: a11 :: a12 :: b :: l := rfl
theorem at0 {a b c : PyData} : atI [a, b, c] 0 = some a := rfl
theorem at1 {a b c : PyData} : atI [a, b, c] 1 = some b := rfl
theorem at2 {a b c : PyData} : atI [a, b, c] 2 = some c := rfl
theorem ix3_0 : ixN 3 0 = some 0 := rfl
theorem ix3_2 : ixN 3 2 = some 2 := rfl
/-! operators, told of ints -/
theorem o_add {i j : Int} : opD .add (.int i) (.int j) = some (.dat (.int (i + j))) := rfl
theorem o_sub {i j : Int} : opD .sub (.int i) (.int j) = some (.dat (.int (i - j))) := rfl
theorem o_mulr {i j : Int} (h1 : -18446744073709551616 < j) (h2 : j < 18446744073709551616) : opD .mul (.int i) (.int j) = some (.dat (.int (i * j))) := if_pos (.inr ⟨h1, h2⟩)
theorem o_mull {i j : Int} (h1 : -18446744073709551616 < i) (h2 : i < 18446744073709551616) : opD .mul (.int i) (.int j) = some (.dat (.int (i * j))) := if_pos (.inl ⟨h1, h2⟩)
theorem o_mod {i j : Int} (h : 0 < j) : opD .mod (.int i) (.int j) = some (.dat (.int (i % j))) := if_pos h
theorem o_fdiv {i j : Int} (h : 0 < j) (h2 : j < 1073741824) : opD .fdiv (.int i) (.int j) = some (.dat (.int (i / j))) := if_pos ⟨h, h2⟩
theorem o_pow7 : opD .pow (.int 10) (.int 7) = some (.dat (.int 10000000)) := rfl
theorem o_pow18 : opD .pow (.int 10) (.int 18) = some (.dat (.int 1000000000000000000)) := rfl
theorem o_pow30 : opD .pow (.int 10) (.int 30) = some (.dat (.int 1000000000000000000000000000000)) := rfl
theorem c_lt {i j : Int} : cmD .lt (.int i) (.int j) = some (decide (i < j)) := rfl
theorem c_le {i j : Int} : cmD .le (.int i) (.int j) = some (decide (i ≤ j)) := rfl
theorem c_gt {i j : Int} : cmD .gt (.int i) (.int j) = some (decide (j < i)) := rfl
theorem c_ge {i j : Int} : cmD .ge (.int i) (.int j) = some (decide (j ≤ i)) := rfl

theorem take_ok (h : Γ "_law_take" = some F_take) (k : Nat) {x y z b : Int} (hx : 0 ≤ x) (hy : 0 ≤ y) (hz : 0 ≤ z) (hz2 : z < 1000000000) (hb : 0 < b) (hb2 : b ≤ 10000000) :
    ∃ r x' z', runF Γ (k + 1) "_law_take" [.r [.int x, .int y, .int z], .d (.int b)] = .ok (.dat (.int r), [[.int x', .int y, .int z']]) ∧ 0 ≤ r ∧ r < b ∧ 0 ≤ x' ∧ z ≤ z' ∧ z' ≤ z + 1 := by
  rw [run_eq h]
  by_cases h0 : 0 < x
  · refine ⟨x % b, x / b, z, ?_, Int.emod_nonneg _ (by omega), Int.emod_lt_of_pos _ hb, Int.ediv_nonneg hx (by omega), Int.le_refl _, by omega⟩
    simp (disch := omega) only [fnGo, refIdx, slotsOf, v_var, v_c, v_op, v_cm, v_ch, v_neg, v_and, v_or, v_not, v_ite, v_ix, v_b1, v_rev, v_min2, v_max2, v_isi, a_nil, a_ref, a_var, a_c, a_op, a_cm, a_ch, a_neg, a_and, a_or, a_not, a_ite, a_tup, a_lst, a_ix, a_sl, a_call, a_callk, a_rev, a_b1, a_min2, a_max2, a_isi, a_pop, a_comp, w_skip, w_seq, w_set, w_par2, w_unp, w_ret, w_cond, w_brk, w_cont, w_put, w_drop, bnd, bndO, thenO, vwOf, view, reD, ofO, ixD, Val.slot, Val.d, retGo, outs, ownAt, argsD, tgGo, Tg.slots, List.length_cons, List.length_nil, List.replicate_succ, List.replicate_zero, List.cons_append, List.nil_append, Nat.reduceAdd, Nat.reduceSub, and_self, and_true, true_and, if_true, if_false, ite_true, ite_false, reduceCtorEq, Option.map_some, Option.map_none, decide_true, decide_false, List.not_mem_nil, List.mem_cons, List.mem_singleton, not_false_eq_true, not_true_eq_false, or_false, false_or, or_self, List.any_cons, List.any_nil, Bool.false_eq_true, Bool.or_false, Bool.or_self, List.length_replicate, Nat.reduceEqDiff, zs0, zs1, zs2, zs3, zs4, zs5, zs6, zs7, zs8, zs9, zs10, zs11, zs12, zs13, zt0, zt1, zt2, zt3, zt4, zt5, zt6, zt7, zt8, zt9, zt10, zt11, zt12, zt13, F_take, take0, at0, c_gt, h0, o_mod, o_fdiv, ix3_0, List.set_cons_zero]
  · have x0 : x = 0 := by omega
    subst x0
    have g2 : ¬ (10000000 : Int) < b := by omega
    have key : ∀ once twice r : Int, once = (y + 48271 * (z + 1)) * (39373 + (z + 1)) % 2147483647 → twice = (once + (z + 1) + y / 1000003) * (once % 40009 + 7) % 2147483629 → r = (twice * 48271 + once) % 2147483587 / 64 % b →
        fnGo (runF Γ k) F_take [.r [.int 0, .int y, .int z], .d (.int b)] = .ok (.dat (.int r), [[.int 0, .int y, .int (z + 1)]]) := by
      intro once twice r e1 e2 e3
      simp (disch := omega) only [fnGo, refIdx, slotsOf, v_var, v_c, v_op, v_cm, v_ch, v_neg, v_and, v_or, v_not, v_ite, v_ix, v_b1, v_rev, v_min2, v_max2, v_isi, a_nil, a_ref, a_var, a_c, a_op, a_cm, a_ch, a_neg, a_and, a_or, a_not, a_ite, a_tup, a_lst, a_ix, a_sl, a_call, a_callk, a_rev, a_b1, a_min2, a_max2, a_isi, a_pop, a_comp, w_skip, w_seq, w_set, w_par2, w_unp, w_ret, w_cond, w_brk, w_cont, w_put, w_drop, bnd, bndO, thenO, vwOf, view, reD, ofO, ixD, Val.slot, Val.d, retGo, outs, ownAt, argsD, tgGo, Tg.slots, List.length_cons, List.length_nil, List.replicate_succ, List.replicate_zero, List.cons_append, List.nil_append, Nat.reduceAdd, Nat.reduceSub, and_self, and_true, true_and, if_true, if_false, ite_true, ite_false, reduceCtorEq, Option.map_some, Option.map_none, decide_true, decide_false, List.not_mem_nil, List.mem_cons, List.mem_singleton, not_false_eq_true, not_true_eq_false, or_false, false_or, or_self, List.any_cons, List.any_nil, Bool.false_eq_true, Bool.or_false, Bool.or_self, List.length_replicate, Nat.reduceEqDiff, zs0, zs1, zs2, zs3, zs4, zs5, zs6, zs7, zs8, zs9, zs10, zs11, zs12, zs13, zt0, zt1, zt2, zt3, zt4, zt5, zt6, zt7, zt8, zt9, zt10, zt11, zt12, zt13, F_take, take0, take1, take2, take3, take4, take5, at0, at1, at2, c_gt, Int.lt_irrefl, g2, o_mod, o_fdiv, o_add, o_pow7, o_mulr, o_mull, ix3_0, ix3_2, List.set_cons_zero, List.set_cons_succ, ← e1, ← e2, ← e3]
    refine ⟨_, 0, z + 1, key _ _ _ rfl rfl rfl, Int.emod_nonneg _ (by omega), Int.emod_lt_of_pos _ hb, Int.le_refl _, by omega, by omega⟩
end
end Us
end

section
set_option Elab.async false
set_option linter.all false
set_option maxRecDepth 100000
set_option maxHeartbeats 2000000
namespace Us
open PySem (Str PyData)
open L2 (atI ixN)
open Iv

/-! ### the box of draws -/
def Bx (n : Int) (b : List PyData) : Prop := ∃ x y z : Int, b = [.int x, .int y, .int z] ∧ 0 ≤ x ∧ 0 ≤ y ∧ 0 ≤ z ∧ z ≤ n
theorem Bx.mono {n m : Int} {b : List PyData} (h : Bx n b) (l : n ≤ m) : Bx m b := by
  obtain ⟨x, y, z, e, h1, h2, h3, h4⟩ := h
  exact ⟨x, y, z, e, h1, h2, h3, by omega⟩
section
variable {Γ : Str → Option Fn}
theorem take_bx (h : Γ "_law_take" = some F_take) (k : Nat) {n m : Int} {b : List PyData} (hb : Bx n b) (hn : n < 1000000000) (h0 : 0 < m) (h1 : m ≤ 10000000) :
    ∃ r b', runF Γ (k + 1) "_law_take" [.r b, .d (.int m)] = .ok (.dat (.int r), [b']) ∧ 0 ≤ r ∧ r < m ∧ Bx (n + 1) b' := by
  obtain ⟨x, y, z, rfl, hx, hy, hz, hz'⟩ := hb
  obtain ⟨r, x', z', e, h2, h3, h4, h5, h6⟩ := take_ok h k hx hy hz (by omega) h0 h1
  exact ⟨r, _, e, h2, h3, x', y, z', rfl, h4, hy, by omega, by omega⟩
end

/-! ### the steps -/
section
variable {cl : Orc} {P : List Nat} {ρ ρ1 ρ2 : En} {a b : C} {e t : E} {v : Val} {i : Nat}
theorem x_seq (h : exec cl P a ρ = .ok (.next ρ1)) : exec cl P (.seq a b) ρ = exec cl P b ρ1 := by
  show thenO (exec cl P a ρ) (exec cl P b) = _
  rw [h]; rfl
theorem x_set (hi : i ∉ P) (h : ev cl e ρ = .ok (v, ρ1)) : exec cl P (.set i e) ρ = .ok (.next (ρ1.set i v.slot)) := by
  show (if i ∈ P then .bad else bndO (ev cl e ρ) fun v ρ1 => .ok (.next (ρ1.set i v.slot))) = _
  rw [if_neg hi, h]; rfl
theorem x_cond {bo : Bool} (h : ev cl t ρ = .ok (.dat (.bool bo), ρ1)) : exec cl P (.cond t a b) ρ = if bo = true then exec cl P a ρ1 else exec cl P b ρ1 := by
  show bndO (ev cl t ρ) _ = _
  rw [h]
  cases bo <;> rfl
theorem e_call {f : Str} {es : E} {as : List Arg} {ps : List PArg} {dss : List (List PyData)} (h1 : evs cl es ρ = .ok (as, ρ1)) (h2 : refsIn ρ1 as = some ps) (h3 : (refIs as).Nodup) (h4 : cl f ps = .ok (v, dss)) (h5 : backRefs ρ1 (refIs as) dss = some ρ2) :
    ev cl (.call f es) ρ = .ok (v, ρ2) := by
  show bnd (evs cl es ρ) _ = _
  rw [h1]
  show callGo cl f as ρ1 = _
  unfold callGo
  rw [h2]
  simp only [if_pos h3, h4, h5]
theorem e_comp {k : Src} {src test elt : E} {tg : Tg} {as : List Arg} {items ds : List PyData} (h1 : evs cl src ρ = .ok (as, ρ1)) (h2 : (argsD as).bind (srcD k) = some items) (h3 : compGo (ev cl test) (ev cl elt) tg items [] (wipeE ρ1 tg.slots) = .ok (ds, ρ2)) (h4 : ds.length ≤ big) :
    ev cl (.comp k src tg test elt) ρ = .ok (.new ds, backE ρ1 ρ2 tg.slots) := by
  show bnd (evs cl src ρ) _ = _
  rw [h1]
  show (match (argsD as).bind (srcD k) with
    | some items => _
    | none => _) = _
  rw [h2]
  simp only [h3, if_pos h4]
theorem x_loop {k : Src} {src : E} {tg : Tg} {as : List Arg} {items : List PyData} (h0 : tg.slots.any (fun i => decide (i ∈ P)) = false) (h1 : evs cl src ρ = .ok (as, ρ1)) (h2 : (argsD as).bind (srcD k) = some items) :
    exec cl P (.loop k src tg b) ρ = loopGo (exec cl P b) tg items ρ1 := by
  show (if tg.slots.any (fun i => decide (i ∈ P)) then .bad else bndO (evs cl src ρ) _) = _
  rw [h0, h1]
  show (match (argsD as).bind (srcD k) with
    | some items => _
    | none => _) = _
  rw [h2]
end
section
variable {cl : Orc} {P : List Nat} {ρ ρ1 ρ2 : En} {a b : C} {e t es : E} {v : Val} {i : Nat} {ds : List PyData} {as : List Arg}
theorem x_app (h0 : ownAt ρ i = true) (he : ev cl e ρ = .ok (v, ρ1)) (hi : ρ1[i]? = some (.own ds)) (hl : ds.length < big) : exec cl P (.app i e) ρ = .ok (.next (ρ1.set i (.own (ds ++ [v.d])))) := by
  show (if ownAt ρ i then bndO (ev cl e ρ) _ else .bad) = _
  rw [if_pos h0, he]
  show (match ρ1[i]? with
    | some (.own ds) => _
    | _ => _) = _
  rw [hi]
  exact if_pos hl
theorem e_tup (h : evs cl es ρ = .ok (as, ρ1)) (hd : argsD as = some ds) (hl : ds.length ≤ big) : ev cl (.tup es) ρ = .ok (.dat (.tuple ds), ρ1) := by
  show bnd (evs cl es ρ) _ = _
  rw [h]
  show (match argsD as with
    | some ds => _
    | none => _) = _
  rw [hd]
  exact if_pos hl
theorem e_lst (h : evs cl es ρ = .ok (as, ρ1)) (hd : argsD as = some ds) (hl : ds.length ≤ big) : ev cl (.lst es) ρ = .ok (.new ds, ρ1) := by
  show bnd (evs cl es ρ) _ = _
  rw [h]
  show (match argsD as with
    | some ds => _
    | none => _) = _
  rw [hd]
  exact if_pos hl
theorem x_par2 {i j : Nat} {a b : E} {u v : Val} (hi : ¬ (i ∈ P ∨ j ∈ P)) (h1 : ev cl a ρ = .ok (u, ρ1)) (h2 : ev cl b ρ1 = .ok (v, ρ2)) : exec cl P (.par2 i j a b) ρ = .ok (.next ((ρ2.set i u.slot).set j v.slot)) := by
  show (if i ∈ P ∨ j ∈ P then .bad else bndO (ev cl a ρ) fun u ρ1 => bndO (ev cl b ρ1) fun v ρ2 => .ok (.next ((ρ2.set i u.slot).set j v.slot))) = _
  rw [if_neg hi, h1]
  show (bndO (ev cl b ρ1) fun v ρ2 => .ok (.next ((ρ2.set i u.slot).set j v.slot))) = _
  rw [h2]
  rfl
theorem x_ret (hv : isVar e = false) (h : ev cl e ρ = .ok (v, ρ1)) : exec cl P (.ret e) ρ = .ok (.ret v ρ1) := by
  have q : exec cl P (.ret e) ρ = bndO (ev cl e ρ) fun v ρ1 => .ok (.ret v ρ1) := by
    cases e <;> first | rfl | cases hv
  rw [q, h]
  rfl
theorem x_retO (h : ρ[i]? = some (.own ds)) : exec cl P (.ret (.var i)) ρ = .ok (.ret (.new ds) (ρ.set i .no)) := by
  show (match ρ[i]? with
    | some (.own ds) => R.ok (Out.ret (.new ds) (ρ.set i .no))
    | _ => bndO (ev cl (.var i) ρ) fun v ρ1 => R.ok (Out.ret v ρ1)) = _
  rw [h]
theorem x_retD {d : PyData} (h : ρ[i]? = some (.dat d)) : exec cl P (.ret (.var i)) ρ = .ok (.ret (.dat d) ρ) := by
  have q : ev cl (.var i) ρ = .ok (.dat d, ρ) := by
    rw [v_var, h]
  show (match ρ[i]? with
    | some (.own ds) => R.ok (Out.ret (.new ds) (ρ.set i .no))
    | _ => bndO (ev cl (.var i) ρ) fun v ρ1 => R.ok (Out.ret v ρ1)) = _
  rw [h, q]
  rfl
theorem x_seqR (h : exec cl P a ρ = .ok (.ret v ρ1)) : exec cl P (.seq a b) ρ = .ok (.ret v ρ1) := by
  show thenO (exec cl P a ρ) (exec cl P b) = _
  rw [h]; rfl
theorem x_condT {a b : C} {o : R En Out} (h : ev cl t ρ = .ok (.dat (.bool true), ρ1)) (q : exec cl P a ρ1 = o) : exec cl P (.cond t a b) ρ = o := by
  rw [x_cond h, if_pos rfl, q]
theorem x_condF {a b : C} {o : R En Out} (h : ev cl t ρ = .ok (.dat (.bool false), ρ1)) (q : exec cl P b ρ1 = o) : exec cl P (.cond t a b) ρ = o := by
  rw [x_cond h, if_neg Bool.false_ne_true, q]
theorem fn_ret {fn : Fn} {args : List PArg} {ρ' : En} {dss : List (List PyData)} (h1 : args.length = fn.ps.length ∧ refIdx 0 args = fn.refs) (h2 : exec cl fn.refs fn.body (slotsOf args ++ List.replicate (fn.nm.length - args.length) .no) = .ok (.ret v ρ')) (h3 : outs ρ' fn.refs = some dss) : fnGo cl fn args = .ok (v, dss) := by
  unfold fnGo
  rw [if_pos h1, h2]
  simp only [h3]
theorem e_nil : ev cl (.lst .nil) ρ = .ok (.new [], ρ) := e_lst rfl rfl (Nat.zero_le _)
theorem e_tnil : ev cl (.tup .nil) ρ = .ok (.dat (.tuple []), ρ) := e_tup rfl rfl (Nat.zero_le _)
end
theorem rng_eq (n : Int) : srcD .rng1 [.int n] = if n < 1000000 ∧ -1000000 < n then some (intsD 0 n.toNat) else none := by
  unfold srcD
  rfl
theorem rng_le {n : Nat} (h : n < 1000000) : (n : Int) < 1000000 ∧ -1000000 < (n : Int) := ⟨by omega, by omega⟩
theorem srcRng {n : Nat} (h : n < 1000000) : (argsD [.d (.int (n : Int))]).bind (srcD .rng1) = some (intsD 0 n) := by
  have e : argsD [.d (.int (n : Int))] = some [.int (n : Int)] := rfl
  rw [e, Option.bind_some, rng_eq, if_pos (rng_le h), Int.toNat_natCast]
/-- a comprehension over a range -/
theorem comp_range {test elt : En → R En (Val × En)} {tg : Tg} (J : Nat → List PyData → En → Prop) : ∀ (n : Nat) (lo : Nat),
    (∀ i, lo ≤ i → i < lo + n → ∀ acc ρ, J i acc ρ → ∃ ρ1, tgGo tg (.int (i : Int)) ρ = some ρ1 ∧
      ((∃ ρ2 v ρ3, test ρ1 = .ok (.dat (.bool true), ρ2) ∧ elt ρ2 = .ok (v, ρ3) ∧ J (i + 1) (acc ++ [v.d]) (wipeE ρ3 tg.slots)) ∨ ∃ ρ2, test ρ1 = .ok (.dat (.bool false), ρ2) ∧ J (i + 1) acc (wipeE ρ2 tg.slots))) →
    ∀ acc ρ, J lo acc ρ → ∃ ds ρ', compGo test elt tg (intsD (lo : Int) n) acc ρ = .ok (ds, ρ') ∧ J (lo + n) ds ρ'
  | 0, lo, _, acc, ρ, h => ⟨acc, ρ, rfl, h⟩
  | n + 1, lo, hs, acc, ρ, h => by
    obtain ⟨ρ1, e1, q⟩ := hs lo (Nat.le_refl _) (by omega) acc ρ h
    have e : lo + (n + 1) = (lo + 1) + n := by omega
    rw [e]
    rcases q with ⟨ρ2, v, ρ3, e2, e3, q⟩ | ⟨ρ2, e2, q⟩
    · obtain ⟨ds, ρ', e4, q4⟩ := comp_range J n (lo + 1) (fun i h1 h2 => hs i (by omega) (by omega)) _ _ q
      refine ⟨ds, ρ', ?_, q4⟩
      show compGo test elt tg (.int (lo : Int) :: intsD ((lo : Int) + 1) n) acc ρ = _
      unfold compGo
      rw [e1]
      simp only [e2, e3]
      exact e4
    · obtain ⟨ds, ρ', e4, q4⟩ := comp_range J n (lo + 1) (fun i h1 h2 => hs i (by omega) (by omega)) _ _ q
      refine ⟨ds, ρ', ?_, q4⟩
      show compGo test elt tg (.int (lo : Int) :: intsD ((lo : Int) + 1) n) acc ρ = _
      unfold compGo
      rw [e1]
      simp only [e2]
      exact e4
/-- a comprehension over given items, every one kept -/
theorem comp_map {test elt : En → R En (Val × En)} {tg : Tg} (J : List PyData → List PyData → En → Prop) :
    (∀ x r acc ρ, J (x :: r) acc ρ → ∃ ρ1, tgGo tg x ρ = some ρ1 ∧
      ((∃ ρ2 v ρ3, test ρ1 = .ok (.dat (.bool true), ρ2) ∧ elt ρ2 = .ok (v, ρ3) ∧ J r (acc ++ [v.d]) (wipeE ρ3 tg.slots)) ∨ ∃ ρ2, test ρ1 = .ok (.dat (.bool false), ρ2) ∧ J r acc (wipeE ρ2 tg.slots))) →
    ∀ items acc ρ, J items acc ρ → ∃ ds ρ', compGo test elt tg items acc ρ = .ok (ds, ρ') ∧ J [] ds ρ'
  | _, [], acc, ρ, h => ⟨acc, ρ, rfl, h⟩
  | hs, x :: r, acc, ρ, h => by
    obtain ⟨ρ1, e1, q⟩ := hs x r acc ρ h
    rcases q with ⟨ρ2, v, ρ3, e2, e3, q⟩ | ⟨ρ2, e2, q⟩
    · obtain ⟨ds, ρ', e4, q4⟩ := comp_map J hs r _ _ q
      refine ⟨ds, ρ', ?_, q4⟩
      unfold compGo
      rw [e1]
      simp only [e2, e3]
      exact e4
    · obtain ⟨ds, ρ', e4, q4⟩ := comp_map J hs r _ _ q
      refine ⟨ds, ρ', ?_, q4⟩
      unfold compGo
      rw [e1]
      simp only [e2]
      exact e4
/-- a loop over a range that goes through -/
theorem loop_range {body : En → R En Out} {tg : Tg} (J : Nat → En → Prop) : ∀ (n : Nat) (lo : Nat),
    (∀ i, lo ≤ i → i < lo + n → ∀ ρ, J i ρ → ∃ ρ1 ρ2, tgGo tg (.int (i : Int)) ρ = some ρ1 ∧ (body ρ1 = .ok (.next ρ2) ∨ body ρ1 = .ok (.cont ρ2)) ∧ J (i + 1) ρ2) →
    ∀ ρ, J lo ρ → ∃ ρ', loopGo body tg (intsD (lo : Int) n) ρ = .ok (.next ρ') ∧ J (lo + n) ρ'
  | 0, lo, _, ρ, h => ⟨ρ, rfl, h⟩
  | n + 1, lo, hs, ρ, h => by
    obtain ⟨ρ1, ρ2, e1, e2, q⟩ := hs lo (Nat.le_refl _) (by omega) ρ h
    have e : lo + (n + 1) = (lo + 1) + n := by omega
    obtain ⟨ρ', e3, q3⟩ := loop_range J n (lo + 1) (fun i h1 h2 => hs i (by omega) (by omega)) ρ2 q
    rw [e]
    refine ⟨ρ', ?_, q3⟩
    show loopGo body tg (.int (lo : Int) :: intsD ((lo : Int) + 1) n) ρ = _
    unfold loopGo
    rw [e1]
    rcases e2 with e2 | e2
    · simp only [e2]; exact e3
    · simp only [e2]; exact e3
/-- a loop over items that goes through -/
theorem loop_all {body : En → R En Out} {tg : Tg} (J : List PyData → En → Prop) :
    (∀ x r ρ, J (x :: r) ρ → ∃ ρ1 ρ2, tgGo tg x ρ = some ρ1 ∧ (body ρ1 = .ok (.next ρ2) ∨ body ρ1 = .ok (.cont ρ2)) ∧ J r ρ2) →
    ∀ items ρ, J items ρ → ∃ ρ', loopGo body tg items ρ = .ok (.next ρ') ∧ J [] ρ'
  | _, [], ρ, h => ⟨ρ, rfl, h⟩
  | hs, x :: r, ρ, h => by
    obtain ⟨ρ1, ρ2, e1, e2, q⟩ := hs x r ρ h
    obtain ⟨ρ', e3, q3⟩ := loop_all J hs r ρ2 q
    refine ⟨ρ', ?_, q3⟩
    unfold loopGo
    rw [e1]
    rcases e2 with e2 | e2
    · simp only [e2]; exact e3
    · simp only [e2]; exact e3
end Us
end

section
set_option Elab.async false
set_option linter.all false
set_option maxRecDepth 100000
set_option maxHeartbeats 2000000
namespace Us
open PySem (Str PyData)
open L2 (atI ixN)
open Iv

/-! ### people and companies as data -/
abbrev Co := List (List Nat × Nat)
def inD (l : List Nat) : List PyData := l.map fun (i : Nat) => PyData.int (i : Int)
def peD (l : List Nat) : PyData := .tuple (inD l)
def enD (q : List Nat × Nat) : PyData := .tuple [peD q.1, .int (q.2 : Int)]
def coL (c : Co) : List PyData := c.map enD
def coD (c : Co) : PyData := .tuple (coL c)
def PeOk (n : Nat) (l : List Nat) : Prop := l.Pairwise (· < ·) ∧ ∀ i ∈ l, i < n
def CoOk (n : Nat) (c : Co) : Prop := ∀ (i : Nat) (q : List Nat × Nat), c[i]? = some q → PeOk n q.1 ∧ i ∉ q.1 ∧ q.2 ≤ n + 2
theorem PeOk.mono {n m : Nat} {l : List Nat} (h : PeOk n l) (q : n ≤ m) : PeOk m l := ⟨h.1, fun i hi => Nat.lt_of_lt_of_le (h.2 i hi) q⟩
theorem PeOk.snoc {n : Nat} {l : List Nat} (h : PeOk n l) : PeOk (n + 1) (l ++ [n]) := by
  refine ⟨List.pairwise_append.mpr ⟨h.1, List.pairwise_singleton _ _, fun a ha b hb => ?_⟩, fun i hi => ?_⟩
  · rw [List.mem_singleton] at hb
    subst hb
    exact h.2 a ha
  · rcases List.mem_append.mp hi with z | z
    · exact Nat.lt_succ_of_lt (h.2 i z)
    · rw [List.mem_singleton] at z
      omega
theorem PeOk.nil {n : Nat} : PeOk n [] := ⟨List.Pairwise.nil, fun _ z => by cases z⟩
theorem asc_len {n : Nat} : ∀ {l : List Nat} {lo : Nat}, l.Pairwise (· < ·) → (∀ i ∈ l, lo ≤ i ∧ i < n) → l.length ≤ n - lo
  | [], _, _, _ => Nat.zero_le _
  | a :: l, lo, hp, ha => by
    obtain ⟨h1, h2⟩ := List.pairwise_cons.mp hp
    have h3 := ha a List.mem_cons_self
    have h4 : l.length ≤ n - (a + 1) := asc_len h2 fun i hi => ⟨h1 i hi, (ha i (List.mem_cons_of_mem _ hi)).2⟩
    show l.length + 1 ≤ n - lo
    omega
theorem pe_len {n : Nat} {l : List Nat} (h : PeOk n l) : l.length ≤ n := asc_len (lo := 0) h.1 fun i hi => ⟨Nat.zero_le _, h.2 i hi⟩
theorem CoOk.snoc {n : Nat} {c : Co} {q : List Nat × Nat} (h : CoOk n c) (h1 : PeOk n q.1) (h2 : c.length ∉ q.1) (h3 : q.2 ≤ n + 2) : CoOk n (c ++ [q]) := by
  intro i q' e
  by_cases hi : i < c.length
  · rw [List.getElem?_append_left hi] at e
    exact h i q' e
  · rw [List.getElem?_append_right (by omega)] at e
    have : i - c.length = 0 := by
      by_cases z : i - c.length = 0
      · exact z
      · rw [List.getElem?_eq_none (by simp; omega)] at e
        cases e
    have hi' : i = c.length := by omega
    subst hi'
    simp at e
    subst e
    exact ⟨h1, h2, h3⟩
theorem inD_snoc {l : List Nat} {i : Nat} : inD (l ++ [i]) = inD l ++ [.int (i : Int)] := by simp [inD]
theorem coL_snoc {c : Co} {q : List Nat × Nat} : coL (c ++ [q]) = coL c ++ [enD q] := by simp [coL]
theorem inD_len {l : List Nat} : (inD l).length = l.length := by simp [inD]
theorem coL_len {l : Co} : (coL l).length = l.length := by simp [coL]

/-! ### a draw as an expression -/
section
variable {Γ : Str → Option Fn}
theorem ev_take (h : Γ "_law_take" = some F_take) (k : Nat) {n mi : Int} {b : List PyData} {rest : En} {m : E} (hb : Bx n b) (hn : n < 1000000000) (h0 : 0 < mi) (h1 : mi ≤ 10000000) (hm : evs (runF Γ (k + 1)) (.cons m .nil) (.own b :: rest) = .ok ([.d (.int mi)], .own b :: rest)) :
    ∃ r b', ev (runF Γ (k + 1)) (.call "_law_take" (.cons (.ref 0) (.cons m .nil))) (.own b :: rest) = .ok (.dat (.int r), .own b' :: rest) ∧ 0 ≤ r ∧ r < mi ∧ Bx (n + 1) b' := by
  obtain ⟨r, b', e, h2, h3, h4⟩ := take_bx h k hb hn h0 h1
  refine ⟨r, b', ?_, h2, h3, h4⟩
  refine e_call (as := [.r 0, .d (.int mi)]) (ps := [.r b, .d (.int mi)]) (ρ1 := .own b :: rest) ?_ rfl (by simp [refIs]) e rfl
  show (bnd (evs (runF Γ (k + 1)) (.cons m .nil) (.own b :: rest)) fun as ρ1 => .ok (.r 0 :: as, ρ1)) = _
  rw [hm]
  rfl
theorem eqv_int {i j : Int} : PyData.eqv (.int i) (.int j) = decide (i = j) := by
  rw [Bool.eq_iff_iff]
  simp [PyData.eqv]
theorem c_ne {i j : Int} : cmD .ne (.int i) (.int j) = some (!decide (i = j)) := by
  show some (!PyData.eqv (.int i) (.int j)) = _
  rw [eqv_int]
theorem c_eq {i j : Int} : cmD .eq (.int i) (.int j) = some (decide (i = j)) := by
  show some (PyData.eqv (.int i) (.int j)) = _
  rw [eqv_int]
theorem b_lenL {xs : List PyData} : b1D .len (.list xs) = some (.dat (.int (xs.length : Int))) := rfl
theorem b_lenT {xs : List PyData} : b1D .len (.tuple xs) = some (.dat (.int (xs.length : Int))) := rfl
theorem b_tupL {xs : List PyData} : b1D .tuple (.list xs) = some (.dat (.tuple xs)) := rfl
theorem b_tupT {xs : List PyData} : b1D .tuple (.tuple xs) = some (.dat (.tuple xs)) := rfl
theorem b_lstL {xs : List PyData} : b1D .list (.list xs) = some (.new xs) := rfl
theorem b_lstT {xs : List PyData} : b1D .list (.tuple xs) = some (.new xs) := rfl

def crowdTest : E := .and (.cm .ne (.var 8) (.var 2)) (.cm .lt (.call "_law_take" (.cons (.ref 0) (.cons (.c (.int 5)) (.nil)))) (.var 4))
def crowdDue : E := .ite (.cm .eq (.var 6) (.c (.int 0))) (.c (.int 0)) (.ite (.cm .lt (.var 6) (.c (.int 5))) (.min2 (.b1 .len (.var 5)) (.op .add (.c (.int 1)) (.call "_law_take" (.cons (.ref 0) (.cons (.c (.int 3)) (.nil)))))) (.call "_law_take" (.cons (.ref 0) (.cons (.op .add (.b1 .len (.var 5)) (.c (.int 3))) (.nil)))))
def crowdBody : C := .seq (.set 5 (.comp .rng1 (.cons (.var 1) (.nil)) (.name 8) crowdTest (.var 8))) (.seq (.set 6 (.call "_law_take" (.cons (.ref 0) (.cons (.c (.int 6)) (.nil))))) (.seq (.set 7 crowdDue) (.app 3 (.tup (.cons (.b1 .tuple (.var 5)) (.cons (.var 7) (.nil)))))))
def F_crowd_of : Fn := ⟨["_law_box_here", "_law_count"], ["_law_box_here", "_law_count", "_law_soul", "_law_found", "_law_dense", "_law_pals", "_law_kind", "_law_due", "_law_its"], [0], .seq (.par2 3 4 (.lst (.nil)) (.op .add (.c (.int 1)) (.call "_law_take" (.cons (.ref 0) (.cons (.c (.int 4)) (.nil)))))) (.seq (.loop .rng1 (.cons (.var 1) (.nil)) (.name 2) crowdBody) (.ret (.b1 .tuple (.var 3))))⟩

/-- one person's friends -/
theorem crowd_pals (hT : Γ "_law_take" = some F_take) (k : Nat) {n : Int} {b : List PyData} {c i : Nat} {dn : Int} {s3 s5 s6 s7 s8 : Slot} (hb : Bx n b) (hn : n < 900000000) (hc : c ≤ 1000) :
    ∃ l b', ev (runF Γ (k + 1)) (.comp .rng1 (.cons (.var 1) (.nil)) (.name 8) crowdTest (.var 8)) [.own b, .dat (.int (c : Int)), .dat (.int (i : Int)), s3, .dat (.int dn), s5, s6, s7, s8] =
      .ok (.new (inD l), [.own b', .dat (.int (c : Int)), .dat (.int (i : Int)), s3, .dat (.int dn), s5, s6, s7, s8]) ∧ PeOk c l ∧ i ∉ l ∧ Bx (n + c) b' := by
  have go := comp_range (test := ev (runF Γ (k + 1)) crowdTest) (elt := ev (runF Γ (k + 1)) (.var 8)) (tg := .name 8)
    (fun j acc ρ => ∃ l b', acc = inD l ∧ PeOk j l ∧ i ∉ l ∧ Bx (n + j) b' ∧ ρ = [.own b', .dat (.int (c : Int)), .dat (.int (i : Int)), s3, .dat (.int dn), s5, s6, s7, .no]) c 0 ?_ [] [.own b, .dat (.int (c : Int)), .dat (.int (i : Int)), s3, .dat (.int dn), s5, s6, s7, .no] ⟨[], b, rfl, PeOk.nil, List.not_mem_nil, hb.mono (by omega), rfl⟩
  · obtain ⟨ds, ρ', e, l, b', e1, h1, h2, h3, e2⟩ := go
    subst e1
    subst e2
    rw [Nat.zero_add] at h1 h3
    refine ⟨l, b', ?_, h1, h2, h3⟩
    have hl : (inD l).length ≤ big := by
      rw [inD_len]
      have := pe_len h1
      have : (1000 : Nat) ≤ big := by decide
      omega
    exact e_comp (as := [.d (.int (c : Int))]) (ρ1 := [.own b, .dat (.int (c : Int)), .dat (.int (i : Int)), s3, .dat (.int dn), s5, s6, s7, s8]) rfl (srcRng (by omega)) e hl
  · rintro j _ hj acc ρ ⟨l, b', rfl, h1, h2, h3, rfl⟩
    rw [Nat.zero_add] at hj
    refine ⟨_, rfl, ?_⟩
    by_cases hij : j = i
    · subst hij
      refine .inr ⟨[.own b', .dat (.int (c : Int)), .dat (.int (j : Int)), s3, .dat (.int dn), s5, s6, s7, .dat (.int (j : Int))], ?_, l, b', rfl, h1.mono (by omega), h2, h3.mono (by omega), rfl⟩
      simp only [fnGo, refIdx, slotsOf, v_var, v_c, v_op, v_cm, v_ch, v_neg, v_and, v_or, v_not, v_ite, v_ix, v_b1, v_rev, v_min2, v_max2, v_isi, a_nil, a_ref, a_var, a_c, a_op, a_cm, a_ch, a_neg, a_and, a_or, a_not, a_ite, a_tup, a_lst, a_ix, a_sl, a_call, a_callk, a_rev, a_b1, a_min2, a_max2, a_isi, a_pop, a_comp, w_skip, w_seq, w_set, w_par2, w_unp, w_ret, w_cond, w_brk, w_cont, w_put, w_drop, bnd, bndO, thenO, vwOf, view, reD, ofO, ixD, Val.slot, Val.d, retGo, outs, ownAt, argsD, tgGo, Tg.slots, List.length_cons, List.length_nil, List.replicate_succ, List.replicate_zero, List.cons_append, List.nil_append, Nat.reduceAdd, Nat.reduceSub, and_self, and_true, true_and, if_true, if_false, ite_true, ite_false, reduceCtorEq, Option.map_some, Option.map_none, decide_true, decide_false, List.not_mem_nil, List.mem_cons, List.mem_singleton, not_false_eq_true, not_true_eq_false, or_false, false_or, or_self, List.any_cons, List.any_nil, Bool.false_eq_true, Bool.or_false, Bool.or_self, List.length_replicate, Nat.reduceEqDiff, zs0, zs1, zs2, zs3, zs4, zs5, zs6, zs7, zs8, zs9, zs10, zs11, zs12, zs13, zt0, zt1, zt2, zt3, zt4, zt5, zt6, zt7, zt8, zt9, zt10, zt11, zt12, zt13, crowdTest, c_ne, Bool.not_true]
    · have hij' : ¬ ((j : Int) = (i : Int)) := by omega
      obtain ⟨r, b2, e, h4, h5, h6⟩ := ev_take hT k (m := .c (.int 5)) (rest := [.dat (.int (c : Int)), .dat (.int (i : Int)), s3, .dat (.int dn), s5, s6, s7, .dat (.int (j : Int))]) h3 (by omega) (by omega) (by omega) rfl
      by_cases hr : r < dn
      · refine .inl ⟨[.own b2, .dat (.int (c : Int)), .dat (.int (i : Int)), s3, .dat (.int dn), s5, s6, s7, .dat (.int (j : Int))], .dat (.int (j : Int)), _, ?_, rfl, l ++ [j], b2, inD_snoc.symm, h1.snoc, ?_, h6.mono (by omega), rfl⟩
        · simp only [fnGo, refIdx, slotsOf, v_var, v_c, v_op, v_cm, v_ch, v_neg, v_and, v_or, v_not, v_ite, v_ix, v_b1, v_rev, v_min2, v_max2, v_isi, a_nil, a_ref, a_var, a_c, a_op, a_cm, a_ch, a_neg, a_and, a_or, a_not, a_ite, a_tup, a_lst, a_ix, a_sl, a_call, a_callk, a_rev, a_b1, a_min2, a_max2, a_isi, a_pop, a_comp, w_skip, w_seq, w_set, w_par2, w_unp, w_ret, w_cond, w_brk, w_cont, w_put, w_drop, bnd, bndO, thenO, vwOf, view, reD, ofO, ixD, Val.slot, Val.d, retGo, outs, ownAt, argsD, tgGo, Tg.slots, List.length_cons, List.length_nil, List.replicate_succ, List.replicate_zero, List.cons_append, List.nil_append, Nat.reduceAdd, Nat.reduceSub, and_self, and_true, true_and, if_true, if_false, ite_true, ite_false, reduceCtorEq, Option.map_some, Option.map_none, decide_true, decide_false, List.not_mem_nil, List.mem_cons, List.mem_singleton, not_false_eq_true, not_true_eq_false, or_false, false_or, or_self, List.any_cons, List.any_nil, Bool.false_eq_true, Bool.or_false, Bool.or_self, List.length_replicate, Nat.reduceEqDiff, zs0, zs1, zs2, zs3, zs4, zs5, zs6, zs7, zs8, zs9, zs10, zs11, zs12, zs13, zt0, zt1, zt2, zt3, zt4, zt5, zt6, zt7, zt8, zt9, zt10, zt11, zt12, zt13, crowdTest, c_ne, hij', Bool.not_false, e, c_lt, hr]
        · simp only [List.mem_append, List.mem_singleton, not_or]
          exact ⟨h2, fun z => hij z.symm⟩
      · refine .inr ⟨[.own b2, .dat (.int (c : Int)), .dat (.int (i : Int)), s3, .dat (.int dn), s5, s6, s7, .dat (.int (j : Int))], ?_, l, b2, rfl, h1.mono (by omega), h2, h6.mono (by omega), rfl⟩
        simp only [fnGo, refIdx, slotsOf, v_var, v_c, v_op, v_cm, v_ch, v_neg, v_and, v_or, v_not, v_ite, v_ix, v_b1, v_rev, v_min2, v_max2, v_isi, a_nil, a_ref, a_var, a_c, a_op, a_cm, a_ch, a_neg, a_and, a_or, a_not, a_ite, a_tup, a_lst, a_ix, a_sl, a_call, a_callk, a_rev, a_b1, a_min2, a_max2, a_isi, a_pop, a_comp, w_skip, w_seq, w_set, w_par2, w_unp, w_ret, w_cond, w_brk, w_cont, w_put, w_drop, bnd, bndO, thenO, vwOf, view, reD, ofO, ixD, Val.slot, Val.d, retGo, outs, ownAt, argsD, tgGo, Tg.slots, List.length_cons, List.length_nil, List.replicate_succ, List.replicate_zero, List.cons_append, List.nil_append, Nat.reduceAdd, Nat.reduceSub, and_self, and_true, true_and, if_true, if_false, ite_true, ite_false, reduceCtorEq, Option.map_some, Option.map_none, decide_true, decide_false, List.not_mem_nil, List.mem_cons, List.mem_singleton, not_false_eq_true, not_true_eq_false, or_false, false_or, or_self, List.any_cons, List.any_nil, Bool.false_eq_true, Bool.or_false, Bool.or_self, List.length_replicate, Nat.reduceEqDiff, zs0, zs1, zs2, zs3, zs4, zs5, zs6, zs7, zs8, zs9, zs10, zs11, zs12, zs13, zt0, zt1, zt2, zt3, zt4, zt5, zt6, zt7, zt8, zt9, zt10, zt11, zt12, zt13, crowdTest, c_ne, hij', Bool.not_false, e, c_lt, hr]
end
end Us
end

section
set_option Elab.async false
set_option linter.all false
set_option maxRecDepth 100000
set_option maxHeartbeats 2000000
namespace Us
open PySem (Str PyData)
open L2 (atI ixN)
open Iv
section
variable {Γ : Str → Option Fn}
/-- one person's need -/
theorem crowd_due (hT : Γ "_law_take" = some F_take) (k : Nat) {n kd : Int} {b : List PyData} {l : List Nat} {c : Nat} {s1 s2 s3 s4 s7 s8 : Slot} (hb : Bx n b) (hn : n < 900000000) (hl : l.length ≤ c) (hc : c ≤ 1000) :
    ∃ (d : Nat) (b' : List PyData), ev (runF Γ (k + 1)) crowdDue [.own b, s1, s2, s3, s4, .own (inD l), .dat (.int kd), s7, s8] =
      .ok (.dat (.int (d : Int)), [.own b', s1, s2, s3, s4, .own (inD l), .dat (.int kd), s7, s8]) ∧ d ≤ c + 2 ∧ Bx (n + 1) b' := by
  by_cases h0 : kd = 0
  · refine ⟨0, b, ?_, by omega, hb.mono (by omega)⟩
    simp only [fnGo, refIdx, slotsOf, v_var, v_c, v_op, v_cm, v_ch, v_neg, v_and, v_or, v_not, v_ite, v_ix, v_b1, v_rev, v_min2, v_max2, v_isi, a_nil, a_ref, a_var, a_c, a_op, a_cm, a_ch, a_neg, a_and, a_or, a_not, a_ite, a_tup, a_lst, a_ix, a_sl, a_call, a_callk, a_rev, a_b1, a_min2, a_max2, a_isi, a_pop, a_comp, w_skip, w_seq, w_set, w_par2, w_unp, w_ret, w_cond, w_brk, w_cont, w_put, w_drop, bnd, bndO, thenO, vwOf, view, reD, ofO, ixD, Val.slot, Val.d, retGo, outs, ownAt, argsD, tgGo, Tg.slots, List.length_cons, List.length_nil, List.replicate_succ, List.replicate_zero, List.cons_append, List.nil_append, Nat.reduceAdd, Nat.reduceSub, and_self, and_true, true_and, if_true, if_false, ite_true, ite_false, reduceCtorEq, Option.map_some, Option.map_none, decide_true, decide_false, List.not_mem_nil, List.mem_cons, List.mem_singleton, not_false_eq_true, not_true_eq_false, or_false, false_or, or_self, List.any_cons, List.any_nil, Bool.false_eq_true, Bool.or_false, Bool.or_self, List.length_replicate, Nat.reduceEqDiff, zs0, zs1, zs2, zs3, zs4, zs5, zs6, zs7, zs8, zs9, zs10, zs11, zs12, zs13, zt0, zt1, zt2, zt3, zt4, zt5, zt6, zt7, zt8, zt9, zt10, zt11, zt12, zt13, crowdDue, c_eq, h0, Int.natCast_zero]
  · by_cases h5 : kd < 5
    · obtain ⟨r, b2, e, h4, h6, h7⟩ := ev_take hT k (m := .c (.int 3)) (rest := [s1, s2, s3, s4, .own (inD l), .dat (.int kd), s7, s8]) hb (by omega) (by omega) (by omega) rfl
      refine ⟨if r.toNat + 1 < l.length then r.toNat + 1 else l.length, b2, ?_, by split <;> omega, h7⟩
      simp only [fnGo, refIdx, slotsOf, v_var, v_c, v_op, v_cm, v_ch, v_neg, v_and, v_or, v_not, v_ite, v_ix, v_b1, v_rev, v_min2, v_max2, v_isi, a_nil, a_ref, a_var, a_c, a_op, a_cm, a_ch, a_neg, a_and, a_or, a_not, a_ite, a_tup, a_lst, a_ix, a_sl, a_call, a_callk, a_rev, a_b1, a_min2, a_max2, a_isi, a_pop, a_comp, w_skip, w_seq, w_set, w_par2, w_unp, w_ret, w_cond, w_brk, w_cont, w_put, w_drop, bnd, bndO, thenO, vwOf, view, reD, ofO, ixD, Val.slot, Val.d, retGo, outs, ownAt, argsD, tgGo, Tg.slots, List.length_cons, List.length_nil, List.replicate_succ, List.replicate_zero, List.cons_append, List.nil_append, Nat.reduceAdd, Nat.reduceSub, and_self, and_true, true_and, if_true, if_false, ite_true, ite_false, reduceCtorEq, Option.map_some, Option.map_none, decide_true, decide_false, List.not_mem_nil, List.mem_cons, List.mem_singleton, not_false_eq_true, not_true_eq_false, or_false, false_or, or_self, List.any_cons, List.any_nil, Bool.false_eq_true, Bool.or_false, Bool.or_self, List.length_replicate, Nat.reduceEqDiff, zs0, zs1, zs2, zs3, zs4, zs5, zs6, zs7, zs8, zs9, zs10, zs11, zs12, zs13, zt0, zt1, zt2, zt3, zt4, zt5, zt6, zt7, zt8, zt9, zt10, zt11, zt12, zt13, crowdDue, c_eq, h0, c_lt, h5, b_lenL, e, o_add, inD_len]
      congr 4
      split <;> split <;> omega
    · obtain ⟨r, b2, e, h4, h6, h7⟩ := ev_take hT k (mi := (l.length : Int) + 3) (m := .op .add (.b1 .len (.var 5)) (.c (.int 3))) (rest := [s1, s2, s3, s4, .own (inD l), .dat (.int kd), s7, s8]) hb (by omega) (by omega) (by omega) (by
        simp only [fnGo, refIdx, slotsOf, v_var, v_c, v_op, v_cm, v_ch, v_neg, v_and, v_or, v_not, v_ite, v_ix, v_b1, v_rev, v_min2, v_max2, v_isi, a_nil, a_ref, a_var, a_c, a_op, a_cm, a_ch, a_neg, a_and, a_or, a_not, a_ite, a_tup, a_lst, a_ix, a_sl, a_call, a_callk, a_rev, a_b1, a_min2, a_max2, a_isi, a_pop, a_comp, w_skip, w_seq, w_set, w_par2, w_unp, w_ret, w_cond, w_brk, w_cont, w_put, w_drop, bnd, bndO, thenO, vwOf, view, reD, ofO, ixD, Val.slot, Val.d, retGo, outs, ownAt, argsD, tgGo, Tg.slots, List.length_cons, List.length_nil, List.replicate_succ, List.replicate_zero, List.cons_append, List.nil_append, Nat.reduceAdd, Nat.reduceSub, and_self, and_true, true_and, if_true, if_false, ite_true, ite_false, reduceCtorEq, Option.map_some, Option.map_none, decide_true, decide_false, List.not_mem_nil, List.mem_cons, List.mem_singleton, not_false_eq_true, not_true_eq_false, or_false, false_or, or_self, List.any_cons, List.any_nil, Bool.false_eq_true, Bool.or_false, Bool.or_self, List.length_replicate, Nat.reduceEqDiff, zs0, zs1, zs2, zs3, zs4, zs5, zs6, zs7, zs8, zs9, zs10, zs11, zs12, zs13, zt0, zt1, zt2, zt3, zt4, zt5, zt6, zt7, zt8, zt9, zt10, zt11, zt12, zt13, b_lenL, o_add, inD_len])
      refine ⟨r.toNat, b2, ?_, by omega, h7⟩
      simp only [fnGo, refIdx, slotsOf, v_var, v_c, v_op, v_cm, v_ch, v_neg, v_and, v_or, v_not, v_ite, v_ix, v_b1, v_rev, v_min2, v_max2, v_isi, a_nil, a_ref, a_var, a_c, a_op, a_cm, a_ch, a_neg, a_and, a_or, a_not, a_ite, a_tup, a_lst, a_ix, a_sl, a_call, a_callk, a_rev, a_b1, a_min2, a_max2, a_isi, a_pop, a_comp, w_skip, w_seq, w_set, w_par2, w_unp, w_ret, w_cond, w_brk, w_cont, w_put, w_drop, bnd, bndO, thenO, vwOf, view, reD, ofO, ixD, Val.slot, Val.d, retGo, outs, ownAt, argsD, tgGo, Tg.slots, List.length_cons, List.length_nil, List.replicate_succ, List.replicate_zero, List.cons_append, List.nil_append, Nat.reduceAdd, Nat.reduceSub, and_self, and_true, true_and, if_true, if_false, ite_true, ite_false, reduceCtorEq, Option.map_some, Option.map_none, decide_true, decide_false, List.not_mem_nil, List.mem_cons, List.mem_singleton, not_false_eq_true, not_true_eq_false, or_false, false_or, or_self, List.any_cons, List.any_nil, Bool.false_eq_true, Bool.or_false, Bool.or_self, List.length_replicate, Nat.reduceEqDiff, zs0, zs1, zs2, zs3, zs4, zs5, zs6, zs7, zs8, zs9, zs10, zs11, zs12, zs13, zt0, zt1, zt2, zt3, zt4, zt5, zt6, zt7, zt8, zt9, zt10, zt11, zt12, zt13, crowdDue, c_eq, h0, c_lt, h5, e]
      rw [Int.toNat_of_nonneg h4]
/-- one person -/
theorem crowd_step (hT : Γ "_law_take" = some F_take) (k : Nat) {n r : Int} {b' : List PyData} {c i : Nat} {cr : Co} {s5 s6 s7 s8 : Slot} (hn : n < 890000000) (hc : c ≤ 1000) (h1 : cr.length = i) (hi : i < c) (h2 : CoOk c cr) (h3 : Bx n b') :
    ∃ b4 l d r6, exec (runF Γ (k + 1)) [0] crowdBody [.own b', .dat (.int (c : Int)), .dat (.int (i : Int)), .own (coL cr), .dat (.int r), s5, s6, s7, s8] =
      .ok (.next [.own b4, .dat (.int (c : Int)), .dat (.int (i : Int)), .own (coL (cr ++ [(l, d)])), .dat (.int r), .own (inD l), .dat (.int r6), .dat (.int ((d : Nat) : Int)), s8]) ∧ CoOk c (cr ++ [(l, d)]) ∧ Bx (n + c + 2) b4 := by
  obtain ⟨l, b2, e1, g1, g2, g3⟩ := crowd_pals hT k (c := c) (i := i) (dn := r) (s3 := .own (coL cr)) (s5 := s5) (s6 := s6) (s7 := s7) (s8 := s8) h3 (by omega) hc
  obtain ⟨r6, b3, e6, g4, g5, g6⟩ := ev_take hT k (m := .c (.int 6)) (rest := [.dat (.int (c : Int)), .dat (.int (i : Int)), .own (coL cr), .dat (.int r), .own (inD l), s6, s7, s8]) g3 (by omega) (by omega) (by omega) rfl
  obtain ⟨d, b4, e7, g7, g8⟩ := crowd_due hT k (kd := r6) (c := c) (l := l) (s1 := .dat (.int (c : Int))) (s2 := .dat (.int (i : Int))) (s3 := .own (coL cr)) (s4 := .dat (.int r)) (s7 := s7) (s8 := s8) g6 (by omega) (pe_len g1) hc
  refine ⟨b4, l, d, r6, ?_, h2.snoc g1 (by rw [h1]; exact g2) g7, g8.mono (by omega)⟩
  have hl1 : (coL cr).length < big := by
    rw [coL_len, h1]
    have : (1000 : Nat) < big := by decide
    omega
  have hl2 : (2 : Nat) ≤ big := by decide
  have et : ev (runF Γ (k + 1)) (.tup (.cons (.b1 .tuple (.var 5)) (.cons (.var 7) (.nil)))) [.own b4, .dat (.int (c : Int)), .dat (.int (i : Int)), .own (coL cr), .dat (.int r), .own (inD l), .dat (.int r6), .dat (.int ((d : Nat) : Int)), s8] =
    .ok (.dat (enD (l, d)), [.own b4, .dat (.int (c : Int)), .dat (.int (i : Int)), .own (coL cr), .dat (.int r), .own (inD l), .dat (.int r6), .dat (.int ((d : Nat) : Int)), s8]) := e_tup (as := [.d (peD l), .d (.int (d : Int))]) rfl rfl hl2
  rw [coL_snoc]
  exact (x_seq (x_set (by decide) e1)).trans ((x_seq (x_set (by decide) e6)).trans ((x_seq (x_set (by decide) e7)).trans (x_app rfl et rfl hl1)))
theorem crowd_of_ok (hT : Γ "_law_take" = some F_take) (hC : Γ "_law_crowd_of" = some F_crowd_of) (k : Nat) {n : Int} {b : List PyData} {c : Nat} (hb : Bx n b) (hn : n < 800000000) (hc : c ≤ 1000) :
    ∃ (cr : Co) (b' : List PyData), runF Γ (k + 2) "_law_crowd_of" [.r b, .d (.int (c : Int))] = .ok (.dat (coD cr), [b']) ∧ cr.length = c ∧ CoOk c cr ∧ Bx (n + 1 + 1002 * c) b' := by
  rw [run_eq hC]
  obtain ⟨r, b1, e, h4, h6, h7⟩ := ev_take hT k (m := .c (.int 4)) (rest := [.dat (.int (c : Int)), .no, .no, .no, .no, .no, .no, .no]) hb (by omega) (by omega) (by omega) rfl
  have lp := loop_range (body := exec (runF Γ (k + 1)) [0] crowdBody) (tg := .name 2) (fun i ρ => ∃ cr b' s2 s5 s6 s7 s8, ρ = [.own b', .dat (.int (c : Int)), s2, .own (coL cr), .dat (.int (1 + r)), s5, s6, s7, s8] ∧ cr.length = i ∧ CoOk c cr ∧ Bx (n + 1 + 1002 * i) b') c 0 ?_
    [.own b1, .dat (.int (c : Int)), .no, .own [], .dat (.int (1 + r)), .no, .no, .no, .no] ⟨[], b1, .no, .no, .no, .no, .no, rfl, rfl, fun i q z => by simp at z, h7.mono (by omega)⟩
  · obtain ⟨ρ', e2, cr, b', s2, s5, s6, s7, s8, rfl, h1, h2, h3⟩ := lp
    rw [Nat.zero_add] at h1 h3
    refine ⟨cr, b', ?_, h1, h2, h3⟩
    have e3 := (x_loop (cl := runF Γ (k + 1)) (P := [0]) (b := crowdBody) (k := .rng1) (src := .cons (.var 1) (.nil)) (tg := .name 2) (as := [.d (.int (c : Int))]) (ρ := [.own b1, .dat (.int (c : Int)), .no, .own [], .dat (.int (1 + r)), .no, .no, .no, .no]) (ρ1 := [.own b1, .dat (.int (c : Int)), .no, .own [], .dat (.int (1 + r)), .no, .no, .no, .no]) rfl rfl (srcRng (by omega))).trans e2
    have ea : ev (runF Γ (k + 1)) (.op .add (.c (.int 1)) (.call "_law_take" (.cons (.ref 0) (.cons (.c (.int 4)) (.nil))))) [.own b, .dat (.int (c : Int)), .no, .no, .no, .no, .no, .no, .no] = .ok (.dat (.int (1 + r)), [.own b1, .dat (.int (c : Int)), .no, .no, .no, .no, .no, .no, .no]) := by
      simp only [fnGo, refIdx, slotsOf, v_var, v_c, v_op, v_cm, v_ch, v_neg, v_and, v_or, v_not, v_ite, v_ix, v_b1, v_rev, v_min2, v_max2, v_isi, a_nil, a_ref, a_var, a_c, a_op, a_cm, a_ch, a_neg, a_and, a_or, a_not, a_ite, a_tup, a_lst, a_ix, a_sl, a_call, a_callk, a_rev, a_b1, a_min2, a_max2, a_isi, a_pop, a_comp, w_skip, w_seq, w_set, w_par2, w_unp, w_ret, w_cond, w_brk, w_cont, w_put, w_drop, bnd, bndO, thenO, vwOf, view, reD, ofO, ixD, Val.slot, Val.d, retGo, outs, ownAt, argsD, tgGo, Tg.slots, List.length_cons, List.length_nil, List.replicate_succ, List.replicate_zero, List.cons_append, List.nil_append, Nat.reduceAdd, Nat.reduceSub, and_self, and_true, true_and, if_true, if_false, ite_true, ite_false, reduceCtorEq, Option.map_some, Option.map_none, decide_true, decide_false, List.not_mem_nil, List.mem_cons, List.mem_singleton, not_false_eq_true, not_true_eq_false, or_false, false_or, or_self, List.any_cons, List.any_nil, Bool.false_eq_true, Bool.or_false, Bool.or_self, List.length_replicate, Nat.reduceEqDiff, zs0, zs1, zs2, zs3, zs4, zs5, zs6, zs7, zs8, zs9, zs10, zs11, zs12, zs13, zt0, zt1, zt2, zt3, zt4, zt5, zt6, zt7, zt8, zt9, zt10, zt11, zt12, zt13, e, o_add]
    exact fn_ret (fn := F_crowd_of) ⟨rfl, rfl⟩ ((x_seq (x_par2 (by decide) e_nil ea)).trans ((x_seq e3).trans (x_ret rfl rfl))) rfl
  · rintro i _ hi ρ ⟨cr, b', s2, s5, s6, s7, s8, rfl, h1, h2, h3⟩
    rw [Nat.zero_add] at hi
    obtain ⟨b4, l, d, r6, e5, g1, g2⟩ := crowd_step hT k (r := 1 + r) (s5 := s5) (s6 := s6) (s7 := s7) (s8 := s8) (by omega) hc h1 hi h2 h3
    refine ⟨_, _, rfl, .inl e5, cr ++ [(l, d)], b4, .dat (.int (i : Int)), .own (inD l), .dat (.int r6), .dat (.int (d : Int)), s8, rfl, ?_, g1, g2.mono (by omega)⟩
    rw [List.length_append, h1]
    rfl
end
end Us
end

section
set_option Elab.async false
set_option linter.all false
set_option maxRecDepth 100000
set_option maxHeartbeats 2000000
namespace Us
open PySem (Str PyData)
open L2 (atI ixN)
open Iv
section
variable {Γ : Str → Option Fn}
def F_crowd : Fn := ⟨["_law_box_here", "_law_most"], ["_law_box_here", "_law_most"], [0], .ret (.call "_law_crowd_of" (.cons (.ref 0) (.cons (.call "_law_take" (.cons (.ref 0) (.cons (.op .add (.var 1) (.c (.int 1))) (.nil)))) (.nil))))⟩
theorem crowd_ok (hT : Γ "_law_take" = some F_take) (hC : Γ "_law_crowd_of" = some F_crowd_of) (hD : Γ "_law_crowd" = some F_crowd) (k : Nat) {n : Int} {b : List PyData} {m : Nat} (hb : Bx n b) (hn : n < 800000000 - 1) (hm : m ≤ 1000) :
    ∃ (c : Nat) (cr : Co) (b' : List PyData), runF Γ (k + 3) "_law_crowd" [.r b, .d (.int (m : Int))] = .ok (.dat (coD cr), [b']) ∧ cr.length = c ∧ c ≤ m ∧ CoOk c cr ∧ Bx (n + 2 + 1002 * m) b' := by
  rw [run_eq hD]
  obtain ⟨r, b1, e, h4, h6, h7⟩ := ev_take hT (k + 1) (mi := (m : Int) + 1) (m := .op .add (.var 1) (.c (.int 1))) (rest := [.dat (.int (m : Int))]) hb (by omega) (by omega) (by omega) rfl
  obtain ⟨cr, b2, e2, h1, h2, h3⟩ := crowd_of_ok hT hC k (c := r.toNat) h7 (by omega) (by omega)
  refine ⟨r.toNat, cr, b2, ?_, h1, by omega, h2, h3.mono (by omega)⟩
  rw [Int.toNat_of_nonneg h4] at e2
  refine fn_ret (fn := F_crowd) ⟨rfl, rfl⟩ (x_ret rfl (e_call (as := [.r 0, .d (.int r)]) (ps := [.r b1, .d (.int r)]) (ρ1 := [.own b1, .dat (.int (m : Int))]) ?_ rfl (by simp [refIs]) e2 rfl)) rfl
  show (bnd (evs (runF Γ (k + 2)) (.cons (.call "_law_take" (.cons (.ref 0) (.cons (.op .add (.var 1) (.c (.int 1))) (.nil)))) .nil) [.own b, .dat (.int (m : Int))]) fun as ρ1 => .ok (.r 0 :: as, ρ1)) = _
  rw [a_call, e]
  rfl
def F_some : Fn := ⟨["_law_box_here", "_law_crowd_here"], ["_law_box_here", "_law_crowd_here", "_law_odds", "_law_soul"], [0], .seq (.set 2 (.op .add (.c (.int 1)) (.call "_law_take" (.cons (.ref 0) (.cons (.c (.int 4)) (.nil)))))) (.ret (.b1 .tuple (.comp .rng1 (.cons (.b1 .len (.var 1)) (.nil)) (.name 3) (.cm .lt (.call "_law_take" (.cons (.ref 0) (.cons (.c (.int 5)) (.nil)))) (.var 2)) (.var 3))))⟩
theorem some_ok (hT : Γ "_law_take" = some F_take) (hS : Γ "_law_some" = some F_some) (k : Nat) {n : Int} {b : List PyData} {xs : List PyData} (hb : Bx n b) (hn : n < 800000000) (hm : xs.length ≤ 1000) :
    ∃ (l : List Nat) (b' : List PyData), runF Γ (k + 2) "_law_some" [.r b, .d (.tuple xs)] = .ok (.dat (peD l), [b']) ∧ PeOk xs.length l ∧ Bx (n + 1 + xs.length) b' := by
  rw [run_eq hS]
  obtain ⟨r, b1, e, h4, h6, h7⟩ := ev_take hT k (m := .c (.int 4)) (rest := [.dat (.tuple xs), .no, .no]) hb (by omega) (by omega) (by omega) rfl
  have go := comp_range (test := ev (runF Γ (k + 1)) (.cm .lt (.call "_law_take" (.cons (.ref 0) (.cons (.c (.int 5)) (.nil)))) (.var 2))) (elt := ev (runF Γ (k + 1)) (.var 3)) (tg := .name 3)
    (fun j acc ρ => ∃ l b', acc = inD l ∧ PeOk j l ∧ Bx (n + 1 + j) b' ∧ ρ = [.own b', .dat (.tuple xs), .dat (.int (1 + r)), .no]) xs.length 0 ?_ [] [.own b1, .dat (.tuple xs), .dat (.int (1 + r)), .no] ⟨[], b1, rfl, PeOk.nil, h7.mono (by omega), rfl⟩
  · obtain ⟨ds, ρ', e2, l, b', e1, h1, h3, e5⟩ := go
    subst e1
    subst e5
    rw [Nat.zero_add] at h1 h3
    refine ⟨l, b', ?_, h1, h3⟩
    have hl : (inD l).length ≤ big := by
      rw [inD_len]
      have := pe_len h1
      have : (1000 : Nat) ≤ big := by decide
      omega
    have ec := e_comp (cl := runF Γ (k + 1)) (k := .rng1) (src := .cons (.b1 .len (.var 1)) (.nil)) (ρ := [.own b1, .dat (.tuple xs), .dat (.int (1 + r)), .no]) (as := [.d (.int (xs.length : Int))]) (ρ1 := [.own b1, .dat (.tuple xs), .dat (.int (1 + r)), .no]) rfl (srcRng (by omega)) e2 hl
    have ea : ev (runF Γ (k + 1)) (.op .add (.c (.int 1)) (.call "_law_take" (.cons (.ref 0) (.cons (.c (.int 4)) (.nil))))) [.own b, .dat (.tuple xs), .no, .no] = .ok (.dat (.int (1 + r)), [.own b1, .dat (.tuple xs), .no, .no]) := by
      simp only [fnGo, refIdx, slotsOf, v_var, v_c, v_op, v_cm, v_ch, v_neg, v_and, v_or, v_not, v_ite, v_ix, v_b1, v_rev, v_min2, v_max2, v_isi, a_nil, a_ref, a_var, a_c, a_op, a_cm, a_ch, a_neg, a_and, a_or, a_not, a_ite, a_tup, a_lst, a_ix, a_sl, a_call, a_callk, a_rev, a_b1, a_min2, a_max2, a_isi, a_pop, a_comp, w_skip, w_seq, w_set, w_par2, w_unp, w_ret, w_cond, w_brk, w_cont, w_put, w_drop, bnd, bndO, thenO, vwOf, view, reD, ofO, ixD, Val.slot, Val.d, retGo, outs, ownAt, argsD, tgGo, Tg.slots, List.length_cons, List.length_nil, List.replicate_succ, List.replicate_zero, List.cons_append, List.nil_append, Nat.reduceAdd, Nat.reduceSub, and_self, and_true, true_and, if_true, if_false, ite_true, ite_false, reduceCtorEq, Option.map_some, Option.map_none, decide_true, decide_false, List.not_mem_nil, List.mem_cons, List.mem_singleton, not_false_eq_true, not_true_eq_false, or_false, false_or, or_self, List.any_cons, List.any_nil, Bool.false_eq_true, Bool.or_false, Bool.or_self, List.length_replicate, Nat.reduceEqDiff, zs0, zs1, zs2, zs3, zs4, zs5, zs6, zs7, zs8, zs9, zs10, zs11, zs12, zs13, zt0, zt1, zt2, zt3, zt4, zt5, zt6, zt7, zt8, zt9, zt10, zt11, zt12, zt13, e, o_add]
    have eb : ev (runF Γ (k + 1)) (.b1 .tuple (.comp .rng1 (.cons (.b1 .len (.var 1)) (.nil)) (.name 3) (.cm .lt (.call "_law_take" (.cons (.ref 0) (.cons (.c (.int 5)) (.nil)))) (.var 2)) (.var 3))) [.own b1, .dat (.tuple xs), .dat (.int (1 + r)), .no] = .ok (.dat (peD l), [.own b', .dat (.tuple xs), .dat (.int (1 + r)), .no]) := by
      rw [v_b1, ec]
      rfl
    exact fn_ret (fn := F_some) ⟨rfl, rfl⟩ ((x_seq (x_set (by decide) ea)).trans (x_ret rfl eb)) rfl
  · rintro j _ hj acc ρ ⟨l, b', rfl, h1, h3, rfl⟩
    rw [Nat.zero_add] at hj
    refine ⟨_, rfl, ?_⟩
    obtain ⟨r5, b2, e5, h8, h9, h10⟩ := ev_take hT k (m := .c (.int 5)) (rest := [.dat (.tuple xs), .dat (.int (1 + r)), .dat (.int (j : Int))]) h3 (by omega) (by omega) (by omega) rfl
    by_cases hr : r5 < 1 + r
    · refine .inl ⟨[.own b2, .dat (.tuple xs), .dat (.int (1 + r)), .dat (.int (j : Int))], .dat (.int (j : Int)), _, ?_, rfl, l ++ [j], b2, inD_snoc.symm, h1.snoc, h10.mono (by omega), rfl⟩
      simp only [fnGo, refIdx, slotsOf, v_var, v_c, v_op, v_cm, v_ch, v_neg, v_and, v_or, v_not, v_ite, v_ix, v_b1, v_rev, v_min2, v_max2, v_isi, a_nil, a_ref, a_var, a_c, a_op, a_cm, a_ch, a_neg, a_and, a_or, a_not, a_ite, a_tup, a_lst, a_ix, a_sl, a_call, a_callk, a_rev, a_b1, a_min2, a_max2, a_isi, a_pop, a_comp, w_skip, w_seq, w_set, w_par2, w_unp, w_ret, w_cond, w_brk, w_cont, w_put, w_drop, bnd, bndO, thenO, vwOf, view, reD, ofO, ixD, Val.slot, Val.d, retGo, outs, ownAt, argsD, tgGo, Tg.slots, List.length_cons, List.length_nil, List.replicate_succ, List.replicate_zero, List.cons_append, List.nil_append, Nat.reduceAdd, Nat.reduceSub, and_self, and_true, true_and, if_true, if_false, ite_true, ite_false, reduceCtorEq, Option.map_some, Option.map_none, decide_true, decide_false, List.not_mem_nil, List.mem_cons, List.mem_singleton, not_false_eq_true, not_true_eq_false, or_false, false_or, or_self, List.any_cons, List.any_nil, Bool.false_eq_true, Bool.or_false, Bool.or_self, List.length_replicate, Nat.reduceEqDiff, zs0, zs1, zs2, zs3, zs4, zs5, zs6, zs7, zs8, zs9, zs10, zs11, zs12, zs13, zt0, zt1, zt2, zt3, zt4, zt5, zt6, zt7, zt8, zt9, zt10, zt11, zt12, zt13, e5, c_lt, hr]
    · refine .inr ⟨[.own b2, .dat (.tuple xs), .dat (.int (1 + r)), .dat (.int (j : Int))], ?_, l, b2, rfl, h1.mono (by omega), h10.mono (by omega), rfl⟩
      simp only [fnGo, refIdx, slotsOf, v_var, v_c, v_op, v_cm, v_ch, v_neg, v_and, v_or, v_not, v_ite, v_ix, v_b1, v_rev, v_min2, v_max2, v_isi, a_nil, a_ref, a_var, a_c, a_op, a_cm, a_ch, a_neg, a_and, a_or, a_not, a_ite, a_tup, a_lst, a_ix, a_sl, a_call, a_callk, a_rev, a_b1, a_min2, a_max2, a_isi, a_pop, a_comp, w_skip, w_seq, w_set, w_par2, w_unp, w_ret, w_cond, w_brk, w_cont, w_put, w_drop, bnd, bndO, thenO, vwOf, view, reD, ofO, ixD, Val.slot, Val.d, retGo, outs, ownAt, argsD, tgGo, Tg.slots, List.length_cons, List.length_nil, List.replicate_succ, List.replicate_zero, List.cons_append, List.nil_append, Nat.reduceAdd, Nat.reduceSub, and_self, and_true, true_and, if_true, if_false, ite_true, ite_false, reduceCtorEq, Option.map_some, Option.map_none, decide_true, decide_false, List.not_mem_nil, List.mem_cons, List.mem_singleton, not_false_eq_true, not_true_eq_false, or_false, false_or, or_self, List.any_cons, List.any_nil, Bool.false_eq_true, Bool.or_false, Bool.or_self, List.length_replicate, Nat.reduceEqDiff, zs0, zs1, zs2, zs3, zs4, zs5, zs6, zs7, zs8, zs9, zs10, zs11, zs12, zs13, zt0, zt1, zt2, zt3, zt4, zt5, zt6, zt7, zt8, zt9, zt10, zt11, zt12, zt13, e5, c_lt, hr]
end
end Us
end

section
set_option Elab.async false
set_option linter.all false
set_option maxRecDepth 100000
set_option maxHeartbeats 2000000
namespace Us
open PySem (Str PyData)
open L2 (atI ixN)
open Iv
theorem ix_nat {n i : Nat} (h : i < n) : ixN n (i : Int) = some i := by
  unfold ixN
  rw [if_pos (by omega), if_pos (by omega)]
  simp
theorem at_nat {xs : List PyData} {i : Nat} (h : i < xs.length) : atI xs (i : Int) = some xs[i] := by
  unfold atI
  rw [ix_nat h]
  exact List.getElem?_eq_getElem h
section
variable {Γ : Str → Option Fn}
def F_of : Fn := ⟨["_law_box_here", "_law_some_here"], ["_law_box_here", "_law_some_here"], [0], .ret (.ix (.var 1) (.call "_law_take" (.cons (.ref 0) (.cons (.b1 .len (.var 1)) (.nil)))))⟩
theorem of_ok (hT : Γ "_law_take" = some F_take) (hO : Γ "_law_of" = some F_of) (k : Nat) {n : Int} {b xs : List PyData} (hb : Bx n b) (hn : n < 800000000) (h0 : xs ≠ []) (hm : xs.length ≤ 1000) :
    ∃ (d : PyData) (b' : List PyData), runF Γ (k + 2) "_law_of" [.r b, .d (.list xs)] = .ok (.dat d, [b']) ∧ d ∈ xs ∧ Bx (n + 1) b' := by
  rw [run_eq hO]
  have hl : 0 < xs.length := List.length_pos_iff.mpr h0
  obtain ⟨r, b1, e, h4, h6, h7⟩ := ev_take hT k (mi := (xs.length : Int)) (m := .b1 .len (.var 1)) (rest := [.dat (.list xs)]) hb (by omega) (by omega) (by omega) rfl
  have hr : r.toNat < xs.length := by omega
  refine ⟨xs[r.toNat], b1, ?_, List.getElem_mem hr, h7⟩
  have ha := at_nat hr
  rw [Int.toNat_of_nonneg h4] at ha
  have ei : ev (runF Γ (k + 1)) (.ix (.var 1) (.call "_law_take" (.cons (.ref 0) (.cons (.b1 .len (.var 1)) (.nil))))) [.own b, .dat (.list xs)] = .ok (.dat xs[r.toNat], [.own b1, .dat (.list xs)]) := by
    simp only [fnGo, refIdx, slotsOf, v_var, v_c, v_op, v_cm, v_ch, v_neg, v_and, v_or, v_not, v_ite, v_ix, v_b1, v_rev, v_min2, v_max2, v_isi, a_nil, a_ref, a_var, a_c, a_op, a_cm, a_ch, a_neg, a_and, a_or, a_not, a_ite, a_tup, a_lst, a_ix, a_sl, a_call, a_callk, a_rev, a_b1, a_min2, a_max2, a_isi, a_pop, a_comp, w_skip, w_seq, w_set, w_par2, w_unp, w_ret, w_cond, w_brk, w_cont, w_put, w_drop, bnd, bndO, thenO, vwOf, view, reD, ofO, ixD, Val.slot, Val.d, retGo, outs, ownAt, argsD, tgGo, Tg.slots, List.length_cons, List.length_nil, List.replicate_succ, List.replicate_zero, List.cons_append, List.nil_append, Nat.reduceAdd, Nat.reduceSub, and_self, and_true, true_and, if_true, if_false, ite_true, ite_false, reduceCtorEq, Option.map_some, Option.map_none, decide_true, decide_false, List.not_mem_nil, List.mem_cons, List.mem_singleton, not_false_eq_true, not_true_eq_false, or_false, false_or, or_self, List.any_cons, List.any_nil, Bool.false_eq_true, Bool.or_false, Bool.or_self, List.length_replicate, Nat.reduceEqDiff, zs0, zs1, zs2, zs3, zs4, zs5, zs6, zs7, zs8, zs9, zs10, zs11, zs12, zs13, zt0, zt1, zt2, zt3, zt4, zt5, zt6, zt7, zt8, zt9, zt10, zt11, zt12, zt13, e, ha]
  exact fn_ret (fn := F_of) ⟨rfl, rfl⟩ (x_ret rfl ei) rfl
/-- the script as data -/
abbrev scD (ns : List Int) : PyData := .dict [(.none, .list (ns.map .int))]
theorem cell_ok (hc : Γ "_law_cell_at" = some F_cell_at) (k : Nat) (ns : List Int) (i : Nat) : ∃ z : Int, runF Γ (k + 1) "_law_cell_at" [.d (scD ns), .d (.int (i : Int))] = .ok (.dat (.int z), []) := by
  rw [run_eq hc]
  have e1 : ev (runF Γ k) (.cm .lt (.var 1) (.b1 .len (.var 0))) [.dat (scD ns), .dat (.int (i : Int))] = .ok (.dat (.bool (decide ((i : Int) < ((ns.map PyData.int).length : Int)))), [.dat (scD ns), .dat (.int (i : Int))]) := rfl
  by_cases h : i < (ns.map PyData.int).length
  · have h' : (i : Int) < ((ns.map PyData.int).length : Int) := by omega
    rw [decide_eq_true h'] at e1
    have ha := at_nat h
    rw [List.getElem_map] at ha
    refine ⟨ns[i]'(by simpa using h), fn_ret (fn := F_cell_at) ⟨rfl, rfl⟩ (x_seqR (x_condT e1 (x_ret (ρ1 := [.dat (scD ns), .dat (.int (i : Int))]) rfl ?_))) rfl⟩
    simp only [fnGo, refIdx, slotsOf, v_var, v_c, v_op, v_cm, v_ch, v_neg, v_and, v_or, v_not, v_ite, v_ix, v_b1, v_rev, v_min2, v_max2, v_isi, a_nil, a_ref, a_var, a_c, a_op, a_cm, a_ch, a_neg, a_and, a_or, a_not, a_ite, a_tup, a_lst, a_ix, a_sl, a_call, a_callk, a_rev, a_b1, a_min2, a_max2, a_isi, a_pop, a_comp, w_skip, w_seq, w_set, w_par2, w_unp, w_ret, w_cond, w_brk, w_cont, w_put, w_drop, bnd, bndO, thenO, vwOf, view, reD, ofO, ixD, Val.slot, Val.d, retGo, outs, ownAt, argsD, tgGo, Tg.slots, List.length_cons, List.length_nil, List.replicate_succ, List.replicate_zero, List.cons_append, List.nil_append, Nat.reduceAdd, Nat.reduceSub, and_self, and_true, true_and, if_true, if_false, ite_true, ite_false, reduceCtorEq, Option.map_some, Option.map_none, decide_true, decide_false, List.not_mem_nil, List.mem_cons, List.mem_singleton, not_false_eq_true, not_true_eq_false, or_false, false_or, or_self, List.any_cons, List.any_nil, Bool.false_eq_true, Bool.or_false, Bool.or_self, List.length_replicate, Nat.reduceEqDiff, zs0, zs1, zs2, zs3, zs4, zs5, zs6, zs7, zs8, zs9, zs10, zs11, zs12, zs13, zt0, zt1, zt2, zt3, zt4, zt5, zt6, zt7, zt8, zt9, zt10, zt11, zt12, zt13, ha]
  · have h' : ¬ (i : Int) < ((ns.map PyData.int).length : Int) := by omega
    rw [decide_eq_false h'] at e1
    exact ⟨0, fn_ret (fn := F_cell_at) ⟨rfl, rfl⟩ ((x_seq (x_condF e1 rfl)).trans (x_ret rfl rfl)) rfl⟩
end
end Us
end

section
set_option Elab.async false
set_option linter.all false
set_option maxRecDepth 100000
set_option maxHeartbeats 2000000
namespace Us
open PySem (Str PyData)
open L2 (atI ixN)
open Iv
section
variable {cl : Orc} {ρ ρ1 ρ2 : En} {a b e r : E} {v : Val} {x x' y : PyData} {as : List Arg}
theorem vw_of (hv : isVar e = false) (h : ev cl e ρ = .ok (v, ρ1)) : vwOf e ρ (ev cl e ρ) = .ok (v.d, ρ1) := by
  rw [vwOf_dat hv, h]
  rfl
theorem e_op {o : Op} (ha : vwOf a ρ (ev cl a ρ) = .ok (x, ρ1)) (hb : vwOf b ρ1 (ev cl b ρ1) = .ok (y, ρ2)) (hr : reD a ρ2 x = some x') (ho : opD o x' y = some v) : ev cl (.op o a b) ρ = .ok (v, ρ2) := by
  rw [v_op, ha]
  show bnd (vwOf b ρ1 (ev cl b ρ1)) _ = _
  rw [hb]
  show (match reD a ρ2 x with
    | some x => ofO ρ2 (opD o x y)
    | none => .bad) = _
  rw [hr]
  show ofO ρ2 (opD o x' y) = _
  rw [ho]
  rfl
theorem e_cm {o : Cm} {q : Bool} (ha : vwOf a ρ (ev cl a ρ) = .ok (x, ρ1)) (hb : vwOf b ρ1 (ev cl b ρ1) = .ok (y, ρ2)) (hr : reD a ρ2 x = some x') (ho : cmD o x' y = some q) : ev cl (.cm o a b) ρ = .ok (.dat (.bool q), ρ2) := by
  rw [v_cm, ha]
  show bnd (vwOf b ρ1 (ev cl b ρ1)) _ = _
  rw [hb]
  show (match reD a ρ2 x with
    | some x => ofO ρ2 ((cmD o x y).map fun b => Val.dat (.bool b))
    | none => .bad) = _
  rw [hr]
  show ofO ρ2 ((cmD o x' y).map fun b => Val.dat (.bool b)) = _
  rw [ho]
  rfl
theorem e_b1 {o : B1} (ha : vwOf a ρ (ev cl a ρ) = .ok (x, ρ1)) (ho : b1D o x = some v) : ev cl (.b1 o a) ρ = .ok (v, ρ1) := by
  rw [v_b1, ha]
  show ofO ρ1 (b1D o x) = _
  rw [ho]
  rfl
theorem e_cons (hx : isRef e = false) (h : ev cl e ρ = .ok (v, ρ1)) (hr : evs cl r ρ1 = .ok (as, ρ2)) : evs cl (.cons e r) ρ = .ok (.d v.d :: as, ρ2) := by
  rw [evs_cons hx, h]
  show (bnd (evs cl r ρ1) fun as ρ2 => .ok (.d v.d :: as, ρ2)) = _
  rw [hr]
  rfl
end
section
variable {Γ : Str → Option Fn}
theorem box_ok (hc : Γ "_law_cell_at" = some F_cell_at) (hb : Γ "_law_box" = some F_box) (k : Nat) (ns : List Int) (i : Nat) : ∃ b, runF Γ (k + 2) "_law_box" [.d (scD ns), .d (.int (i : Int))] = .ok (.new b, []) ∧ Bx 0 b := by
  obtain ⟨z, e⟩ := cell_ok hc k ns i
  rw [run_eq hb]
  have ec : ev (runF Γ (k + 1)) (.call "_law_cell_at" (.cons (.var 0) (.cons (.var 1) (.nil)))) [.dat (scD ns), .dat (.int (i : Int)), .no] = .ok (.dat (.int z), [.dat (scD ns), .dat (.int (i : Int)), .no]) := e_call (as := [.d (scD ns), .d (.int (i : Int))]) (ps := [.d (scD ns), .d (.int (i : Int))]) (ρ1 := [.dat (scD ns), .dat (.int (i : Int)), .no]) rfl rfl (by simp [refIs]) e rfl
  generalize hd : ([.dat (scD ns), .dat (.int (i : Int)), .dat (.int z)] : En) = ρ
  have ez : vwOf (.var 2) ρ (ev (runF Γ (k + 1)) (.var 2) ρ) = .ok (.int z, ρ) := by subst hd; rfl
  have ei : vwOf (.var 1) ρ (ev (runF Γ (k + 1)) (.var 1) ρ) = .ok (.int (i : Int), ρ) := by subst hd; rfl
  have rz : reD (.var 2) ρ (.int z) = some (.int z) := by subst hd; rfl
  have eabs : ev (runF Γ (k + 1)) (.b1 .abs (.var 2)) ρ = .ok (.dat (.int (z.natAbs : Int)), ρ) := e_b1 ez rfl
  have ep : ev (runF Γ (k + 1)) (.op .pow (.c (.int 10)) (.c (.int 18))) ρ = .ok (.dat (.int 1000000000000000000), ρ) := e_op (vw_of rfl v_c) (vw_of rfl v_c) rfl o_pow18
  have ecm : ev (runF Γ (k + 1)) (.cm .ge (.b1 .abs (.var 2)) (.op .pow (.c (.int 10)) (.c (.int 18)))) ρ = .ok (.dat (.bool (decide ((1000000000000000000 : Int) ≤ (z.natAbs : Int)))), ρ) := e_cm (vw_of rfl eabs) (vw_of rfl ep) rfl c_ge
  have ebi : ∃ w : Int, (w = 0 ∨ w = 1) ∧ ev (runF Γ (k + 1)) (.b1 .int (.cm .ge (.b1 .abs (.var 2)) (.op .pow (.c (.int 10)) (.c (.int 18))))) ρ = .ok (.dat (.int w), ρ) := by
    generalize decide ((1000000000000000000 : Int) ≤ (z.natAbs : Int)) = q at ecm
    cases q with
    | true => exact ⟨1, .inr rfl, e_b1 (vw_of rfl ecm) rfl⟩
    | false => exact ⟨0, .inl rfl, e_b1 (vw_of rfl ecm) rfl⟩
  obtain ⟨w, hw, ew⟩ := ebi
  have e1 : ev (runF Γ (k + 1)) (.op .mul (.b1 .abs (.var 2)) (.b1 .int (.cm .ge (.b1 .abs (.var 2)) (.op .pow (.c (.int 10)) (.c (.int 18)))))) ρ = .ok (.dat (.int ((z.natAbs : Int) * w)), ρ) :=
    e_op (vw_of rfl eabs) (vw_of rfl ew) rfl (o_mulr (by omega) (by omega))
  have e2 : ev (runF Γ (k + 1)) (.op .add (.op .add (.op .mod (.var 2) (.c (.int 2305843009213693951))) (.op .mul (.c (.int 39373)) (.var 1))) (.c (.int 29))) ρ = .ok (.dat (.int (z % 2305843009213693951 + 39373 * (i : Int) + 29)), ρ) :=
    e_op (vw_of rfl (e_op (vw_of rfl (e_op ez (vw_of rfl v_c) rz (o_mod (by omega)))) (vw_of rfl (e_op (vw_of rfl v_c) ei rfl (o_mull (by omega) (by omega)))) rfl o_add)) (vw_of rfl v_c) rfl o_add
  have ea := e_cons rfl e1 (e_cons rfl e2 (e_cons (e := .c (.int 0)) rfl v_c (a_nil (cl := runF Γ (k + 1)) (ρ := ρ))))
  have hx : 0 ≤ (z.natAbs : Int) * w := by rcases hw with rfl | rfl <;> omega
  subst hd
  exact ⟨_, fn_ret (fn := F_box) ⟨rfl, rfl⟩ ((x_seq (x_set (by decide) ec)).trans (x_ret rfl (e_lst ea rfl (by show 3 ≤ big; decide)))) rfl, _, z % 2305843009213693951 + 39373 * (i : Int) + 29, 0, rfl, hx, by omega, by omega, by omega⟩
end
end Us
end

section
set_option Elab.async false
set_option linter.all false
set_option maxRecDepth 100000
set_option maxHeartbeats 2000000
namespace Us
open PySem (Str PyData)
open L2 (atI ixN)
open Iv
/-! ### small data: no dict, depth at most t, no long rows -/
def okD : Nat → PyData → Bool
  | t + 1, .list xs => decide (xs.length ≤ big) && xs.all (okD t)
  | t + 1, .tuple xs => decide (xs.length ≤ big) && xs.all (okD t)
  | 0, .list _ => false
  | 0, .tuple _ => false
  | _, .dict _ => false
  | _, d => d.canLay0
def listsD : Nat → PyData → PyData
  | t + 1, .list xs => .list (xs.map (listsD t))
  | t + 1, .tuple xs => .list (xs.map (listsD t))
  | _, d => d
theorem okD_list {t : Nat} {xs : List PyData} (h : okD (t + 1) (.list xs) = true) : xs.length ≤ big ∧ ∀ x ∈ xs, okD t x = true := by
  have h : (decide (xs.length ≤ big) && xs.all (okD t)) = true := h
  rw [Bool.and_eq_true] at h
  exact ⟨of_decide_eq_true h.1, List.all_eq_true.mp h.2⟩
theorem okD_tuple {t : Nat} {xs : List PyData} (h : okD (t + 1) (.tuple xs) = true) : xs.length ≤ big ∧ ∀ x ∈ xs, okD t x = true := by
  have h : (decide (xs.length ≤ big) && xs.all (okD t)) = true := h
  rw [Bool.and_eq_true] at h
  exact ⟨of_decide_eq_true h.1, List.all_eq_true.mp h.2⟩
section
variable {Γ : Str → Option Fn}
def F_lists : Fn := ⟨["_law_part"], ["_law_part", "_law_piece"], [], .ret (.ite (.isi (.var 0) [.list, .tuple]) (.comp .seq (.cons (.var 0) .nil) (.name 1) (.c (.bool true)) (.call "_law_lists" (.cons (.var 1) (.nil)))) (.var 0))⟩
theorem e_iteT {cl : Orc} {t a b : E} {ρ ρ1 : En} {o : R En (Val × En)} (h : ev cl t ρ = .ok (.dat (.bool true), ρ1)) (q : ev cl a ρ1 = o) : ev cl (.ite t a b) ρ = o := by
  rw [v_ite, h]
  exact q
theorem e_iteF {cl : Orc} {t a b : E} {ρ ρ1 : En} {o : R En (Val × En)} (h : ev cl t ρ = .ok (.dat (.bool false), ρ1)) (q : ev cl b ρ1 = o) : ev cl (.ite t a b) ρ = o := by
  rw [v_ite, h]
  exact q
theorem walk_seq {d : PyData} {xs : List PyData} (h : seqOf d = some xs) : walkOf d = some xs := by
  cases d with
  | list l => exact h
  | tuple l => exact h
  | _ => cases h
theorem lists_row (hL : Γ "_law_lists" = some F_lists) (t k : Nat) (ih : ∀ d, okD t d = true → ∃ v, runF Γ (k + t + 1) "_law_lists" [.d d] = .ok (v, []) ∧ v.d = listsD t d) (d : PyData) (xs : List PyData) (hs : seqOf d = some xs) (hl : xs.length ≤ big) (hx : ∀ x ∈ xs, okD t x = true) :
    ev (runF Γ (k + t + 1)) (.comp .seq (.cons (.var 0) .nil) (.name 1) (.c (.bool true)) (.call "_law_lists" (.cons (.var 1) (.nil)))) [.dat d, .no] = .ok (.new (xs.map (listsD t)), [.dat d, .no]) := by
  have go := comp_map (test := ev (runF Γ (k + t + 1)) (.c (.bool true))) (elt := ev (runF Γ (k + t + 1)) (.call "_law_lists" (.cons (.var 1) (.nil)))) (tg := .name 1)
    (fun items acc ρ => (∀ x ∈ items, okD t x = true) ∧ acc ++ items.map (listsD t) = xs.map (listsD t) ∧ ρ = [.dat d, .no]) ?_ xs [] [.dat d, .no] ⟨hx, by simp, rfl⟩
  · obtain ⟨ds, ρ', e, e1, e2, e3⟩ := go
    subst e3
    have e2 : ds = xs.map (listsD t) := by simpa using e2
    subst e2
    exact e_comp (as := [.d d]) (ρ1 := [.dat d, .no]) rfl (by
      show walkOf d = some xs
      exact walk_seq hs) e (by rw [List.length_map]; exact hl)
  · rintro x r acc ρ ⟨h1, h2, rfl⟩
    obtain ⟨v, e, hv⟩ := ih x (h1 x List.mem_cons_self)
    refine ⟨_, rfl, .inl ⟨[.dat d, .dat x], v, [.dat d, .dat x], rfl, e_call (as := [.d x]) (ps := [.d x]) (ρ1 := [.dat d, .dat x]) rfl rfl (by simp [refIs]) e rfl, fun y hy => h1 y (List.mem_cons_of_mem _ hy), ?_, rfl⟩⟩
    rw [hv, ← h2]
    simp
theorem lists_ok (hL : Γ "_law_lists" = some F_lists) : ∀ (t k : Nat) (d : PyData), okD t d = true → ∃ v, runF Γ (k + t + 1) "_law_lists" [.d d] = .ok (v, []) ∧ v.d = listsD t d := by
  have plain : ∀ (k : Nat) (d : PyData), ev (runF Γ k) (.isi (.var 0) [.list, .tuple]) [.dat d, .no] = .ok (.dat (.bool false), [.dat d, .no]) → ∃ v, runF Γ (k + 1) "_law_lists" [.d d] = .ok (v, []) ∧ v.d = d := fun k d h => by
    rw [run_eq hL]
    exact ⟨.dat d, fn_ret (fn := F_lists) ⟨rfl, rfl⟩ (x_ret (ρ1 := [.dat d, .no]) rfl (e_iteF h rfl)) rfl, rfl⟩
  intro t
  induction t with
  | zero =>
    intro k d hd
    cases d with
    | none => exact plain _ _ rfl
    | bool b => exact plain _ _ rfl
    | int i => exact plain _ _ rfl
    | str s => exact plain _ _ rfl
    | list xs => cases hd
    | tuple xs => cases hd
    | dict kv => cases hd
  | succ t ih =>
    intro k d hd
    cases d with
    | none => exact plain _ _ rfl
    | bool b => exact plain _ _ rfl
    | int i => exact plain _ _ rfl
    | str s => exact plain _ _ rfl
    | list xs =>
      obtain ⟨hl, hx⟩ := okD_list hd
      have er := lists_row hL t k (ih k) (.list xs) xs rfl hl hx
      rw [show k + (t + 1) + 1 = (k + t + 1) + 1 by omega, run_eq hL]
      exact ⟨_, fn_ret (fn := F_lists) ⟨rfl, rfl⟩ (x_ret rfl (e_iteT rfl er)) rfl, rfl⟩
    | tuple xs =>
      obtain ⟨hl, hx⟩ := okD_tuple hd
      have er := lists_row hL t k (ih k) (.tuple xs) xs rfl hl hx
      rw [show k + (t + 1) + 1 = (k + t + 1) + 1 by omega, run_eq hL]
      exact ⟨_, fn_ret (fn := F_lists) ⟨rfl, rfl⟩ (x_ret rfl (e_iteT rfl er)) rfl, rfl⟩
    | dict kv => cases hd
end
end Us
end

section
set_option Elab.async false
set_option linter.all false
set_option maxRecDepth 100000
set_option maxHeartbeats 2000000
namespace Us
open PySem (Str PyData)
open L2 (atI ixN)
open Iv
theorem bools_map : ∀ bs : List Bool, boolsOf (bs.map PyData.bool) = some bs
  | [] => rfl
  | b :: bs => by
    show (boolsOf (bs.map PyData.bool)).map (b :: ·) = _
    rw [bools_map bs]
    rfl
theorem b_allB {bs : List Bool} : b1D .all (.list (bs.map .bool)) = some (.dat (.bool (bs.all id))) := by
  show (boolsOf (bs.map PyData.bool)).map _ = _
  rw [bools_map]
  rfl
section
variable {Γ : Str → Option Fn}
def sameComp : E := .comp .zip (.cons (.var 0) (.cons (.var 1) (.nil))) (.cons (.name 2) (.cons (.name 3) .nil)) (.c (.bool true)) (.call "_law_same" (.cons (.var 2) (.cons (.var 3) (.nil))))
def same0 : C := .cond (.isi (.var 1) [.list, .tuple]) (.seq (.cond (.or (.cm .ne (.isi (.var 0) [.list]) (.isi (.var 1) [.list])) (.cm .ne (.isi (.var 0) [.tuple]) (.isi (.var 1) [.tuple]))) (.ret (.c (.bool false))) (.skip)) (.ret (.and (.cm .eq (.b1 .len (.var 0)) (.b1 .len (.var 1))) (.b1 .all sameComp)))) (.skip)
def same1 : C := .cond (.or (.cm .is_ (.var 1) (.c .none)) (.isi (.var 1) [.bool, .str])) (.ret (.and (.cm .eq (.var 0) (.var 1)) (.and (.cm .eq (.isi (.var 0) [.bool]) (.isi (.var 1) [.bool])) (.cm .eq (.cm .is_ (.var 0) (.c .none)) (.cm .is_ (.var 1) (.c .none)))))) (.skip)
def same2 : C := .ret (.and (.isi (.var 0) [.int]) (.and (.not (.isi (.var 0) [.bool])) (.cm .eq (.var 0) (.var 1))))
def F_same : Fn := ⟨["_law_found", "_law_due"], ["_law_found", "_law_due", "_law_a", "_law_b"], [], .seq same0 (.seq same1 same2)⟩
theorem same_rows (t k : Nat) (ih : ∀ x y, okD t x = true → okD t y = true → ∃ q : Bool, runF Γ (k + t + 1) "_law_same" [.d x, .d y] = .ok (.dat (.bool q), []) ∧ (q = true ↔ x = y)) (x y : PyData) (xs ys : List PyData) (hs : srcD .zip [x, y] = some (zipD xs ys)) (hxy : xs.length = ys.length)
    (hl : xs.length ≤ big) (hx : ∀ u ∈ xs, okD t u = true) (hy : ∀ u ∈ ys, okD t u = true) :
    ∃ q : Bool, ev (runF Γ (k + t + 1)) (.b1 .all sameComp) [.dat x, .dat y, .no, .no] = .ok (.dat (.bool q), [.dat x, .dat y, .no, .no]) ∧ (q = true ↔ xs = ys) := by
  have go := comp_map (test := ev (runF Γ (k + t + 1)) (.c (.bool true))) (elt := ev (runF Γ (k + t + 1)) (.call "_law_same" (.cons (.var 2) (.cons (.var 3) (.nil))))) (tg := .cons (.name 2) (.cons (.name 3) .nil))
    (fun items acc ρ => ∃ bs us vs, acc = bs.map PyData.bool ∧ items = zipD us vs ∧ us.length = vs.length ∧ bs.length + us.length = xs.length ∧ (∀ u ∈ us, okD t u = true) ∧ (∀ u ∈ vs, okD t u = true) ∧ ((bs.all id = true ∧ us = vs) ↔ xs = ys) ∧ ρ = [.dat x, .dat y, .no, .no]) ?_ (zipD xs ys) [] [.dat x, .dat y, .no, .no] ⟨[], xs, ys, rfl, rfl, hxy, by simp, hx, hy, by simp, rfl⟩
  · obtain ⟨ds, ρ', e, bs, us, vs, e1, e2, e3, e4, _, _, e5, e6⟩ := go
    subst e1
    subst e6
    have u0 : us = [] := by
      cases us with
      | nil => rfl
      | cons u us =>
        cases vs with
        | nil => cases e3
        | cons v vs => cases e2
    subst u0
    have v0 : vs = [] := List.eq_nil_of_length_eq_zero e3.symm
    subst v0
    refine ⟨bs.all id, ?_, by rw [← e5]; simp⟩
    have ec := e_comp (cl := runF Γ (k + t + 1)) (k := .zip) (src := .cons (.var 0) (.cons (.var 1) (.nil))) (ρ := [.dat x, .dat y, .no, .no]) (as := [.d x, .d y]) (ρ1 := [.dat x, .dat y, .no, .no]) rfl (by
      show srcD .zip [x, y] = _
      exact hs) e (by
        rw [List.length_map]
        have : bs.length = xs.length := by simpa using e4
        omega)
    exact e_b1 (vw_of rfl ec) b_allB
  · rintro p r acc ρ ⟨bs, us, vs, rfl, e2, e3, e4, h1, h2, e5, rfl⟩
    cases us with
    | nil => cases vs <;> cases e2
    | cons u us =>
      cases vs with
      | nil => cases e3
      | cons v vs =>
        cases e2
        obtain ⟨q, e, hq⟩ := ih u v (h1 u List.mem_cons_self) (h2 v List.mem_cons_self)
        refine ⟨[.dat x, .dat y, .dat u, .dat v], rfl, .inl ⟨[.dat x, .dat y, .dat u, .dat v], .dat (.bool q), [.dat x, .dat y, .dat u, .dat v], rfl, e_call (as := [.d u, .d v]) (ps := [.d u, .d v]) (ρ1 := [.dat x, .dat y, .dat u, .dat v]) rfl rfl (by simp [refIs]) e rfl,
          bs ++ [q], us, vs, by rw [List.map_append]; rfl, rfl, by simpa using e3, by simp at e4 ⊢; omega, fun w hw => h1 w (List.mem_cons_of_mem _ hw), fun w hw => h2 w (List.mem_cons_of_mem _ hw), ?_, rfl⟩⟩
        rw [← e5, List.all_append]
        constructor
        · rintro ⟨z1, z2⟩
          rw [Bool.and_eq_true] at z1
          have : q = true := by simpa using z1.2
          exact ⟨z1.1, by rw [hq.mp this, z2]⟩
        · rintro ⟨z1, z2⟩
          cases z2
          have : q = true := hq.mpr rfl
          subst this
          exact ⟨by rw [z1]; rfl, rfl⟩
end
end Us
end

section
set_option Elab.async false
set_option linter.all false
set_option maxRecDepth 100000
set_option maxHeartbeats 2000000
namespace Us
open PySem (Str PyData)
open L2 (atI ixN)
open Iv
theorem okD_lay : ∀ (t : Nat) (d : PyData), okD t d = true → d.canLay0 = true ∧ d.depth ≤ t := by
  have rows : ∀ (t : Nat), (∀ d, okD t d = true → d.canLay0 = true ∧ d.depth ≤ t) → ∀ xs : List PyData, (∀ x ∈ xs, okD t x = true) → PyData.canLayAll0 xs = true ∧ PyData.depthAll xs ≤ t := by
    intro t ih xs
    induction xs with
    | nil => exact fun _ => ⟨rfl, Nat.zero_le _⟩
    | cons x xs ihx =>
      intro h
      obtain ⟨a1, a2⟩ := ih x (h x List.mem_cons_self)
      obtain ⟨b1, b2⟩ := ihx fun y hy => h y (List.mem_cons_of_mem _ hy)
      refine ⟨?_, ?_⟩
      · simp [PyData.canLayAll0, a1, b1]
      · simp only [PyData.depthAll]
        omega
  intro t
  induction t with
  | zero =>
    intro d h
    cases d with
    | none => exact ⟨rfl, Nat.le_refl _⟩
    | bool b => exact ⟨rfl, Nat.le_refl _⟩
    | int i => exact ⟨rfl, Nat.le_refl _⟩
    | str s => exact ⟨h, Nat.le_refl _⟩
    | list xs => cases h
    | tuple xs => cases h
    | dict kv => cases h
  | succ t ih =>
    intro d h
    cases d with
    | none => exact ⟨rfl, Nat.zero_le _⟩
    | bool b => exact ⟨rfl, Nat.zero_le _⟩
    | int i => exact ⟨rfl, Nat.zero_le _⟩
    | str s => exact ⟨h, Nat.zero_le _⟩
    | list xs =>
      obtain ⟨b1, b2⟩ := rows t ih xs (okD_list h).2
      exact ⟨by simpa [PyData.canLay0] using b1, by simp only [PyData.depth]; omega⟩
    | tuple xs =>
      obtain ⟨b1, b2⟩ := rows t ih xs (okD_tuple h).2
      exact ⟨by simpa [PyData.canLay0] using b1, by simp only [PyData.depth]; omega⟩
    | dict kv => cases h
theorem okD_shaped {t : Nat} {d : PyData} (h : okD t d = true) (ht : t ≤ 60) : PySem.SeqAt.shaped d = true := by
  obtain ⟨a, b⟩ := okD_lay t d h
  show (d.canLay0 && decide (d.depth ≤ 64)) = true
  rw [a, decide_eq_true (by omega)]
  rfl
theorem okEq_of {x y : PyData} (hx : PySem.SeqAt.shaped x = true) (hy : PySem.SeqAt.shaped y = true) : okEq x y = true := by
  have h : (PySem.SeqAt.shaped x && PySem.SeqAt.shaped y) = true := by rw [hx, hy]; rfl
  cases x <;> cases y <;> first | rfl | exact h
theorem c_eqD {x y : PyData} (hx : PySem.SeqAt.shaped x = true) (hy : PySem.SeqAt.shaped y = true) : cmD .eq x y = some (PyData.eqv x y) := if_pos (okEq_of hx hy)
section
variable {Γ : Str → Option Fn}
theorem same_ok (hS : Γ "_law_same" = some F_same) : ∀ (t : Nat), t ≤ 60 → ∀ (k : Nat) (x y : PyData), okD t x = true → okD t y = true → ∃ q : Bool, runF Γ (k + t + 1) "_law_same" [.d x, .d y] = .ok (.dat (.bool q), []) ∧ (q = true ↔ x = y) := by
  -- what is due is None, a truth value or a text
  have flat1 : ∀ (k : Nat) (x y : PyData), PySem.SeqAt.shaped x = true → PySem.SeqAt.shaped y = true → (y = .none ∨ (∃ b, y = .bool b) ∨ ∃ s, y = .str s) → (∀ kv, x ≠ .dict kv) → ∃ q : Bool, runF Γ (k + 1) "_law_same" [.d x, .d y] = .ok (.dat (.bool q), []) ∧ (q = true ↔ x = y) := by
    intro k x y hx hy hf nd
    rw [run_eq hS]
    have e0 : ∀ {r : R En Out}, exec (runF Γ k) [] (.seq same1 same2) [.dat x, .dat y, .no, .no] = r → exec (runF Γ k) [] (.seq same0 (.seq same1 same2)) [.dat x, .dat y, .no, .no] = r := fun h => by
      refine (x_seq (ρ1 := [.dat x, .dat y, .no, .no]) ?_).trans h
      rcases hf with rfl | ⟨b, rfl⟩ | ⟨s, rfl⟩ <;> exact x_condF rfl rfl
    have et : ev (runF Γ k) (.or (.cm .is_ (.var 1) (.c .none)) (.isi (.var 1) [.bool, .str])) [.dat x, .dat y, .no, .no] = .ok (.dat (.bool true), [.dat x, .dat y, .no, .no]) := by
      rcases hf with rfl | ⟨b, rfl⟩ | ⟨s, rfl⟩ <;> rfl
    have ee : ev (runF Γ k) (.cm .eq (.var 0) (.var 1)) [.dat x, .dat y, .no, .no] = .ok (.dat (.bool (PyData.eqv x y)), [.dat x, .dat y, .no, .no]) := e_cm (x := x) (y := y) (x' := x) rfl rfl rfl (c_eqD hx hy)
    have fin : ∀ q : Bool, ev (runF Γ k) (.and (.cm .eq (.var 0) (.var 1)) (.and (.cm .eq (.isi (.var 0) [.bool]) (.isi (.var 1) [.bool])) (.cm .eq (.cm .is_ (.var 0) (.c .none)) (.cm .is_ (.var 1) (.c .none))))) [.dat x, .dat y, .no, .no] = .ok (.dat (.bool q), [.dat x, .dat y, .no, .no]) → fnGo (runF Γ k) F_same [.d x, .d y] = .ok (.dat (.bool q), []) := fun q h =>
      fn_ret (fn := F_same) ⟨rfl, rfl⟩ (e0 (x_seqR (x_condT et (x_ret rfl h)))) rfl
    cases hq : PyData.eqv x y with
    | false =>
      rw [hq] at ee
      refine ⟨false, fin false (by rw [v_and, ee]; rfl), ⟨fun z => Bool.noConfusion z, fun z => ?_⟩⟩
      subst z
      rcases hf with rfl | ⟨b, rfl⟩ | ⟨s, rfl⟩ <;> simp [PyData.eqv] at hq
    | true =>
      rw [hq] at ee
      rcases hf with rfl | ⟨b, rfl⟩ | ⟨s, rfl⟩
      · cases x <;> first | (simp [PyData.eqv] at hq; done) | exact ⟨true, fin true (by rw [v_and, ee]; rfl), by simp⟩
      · cases x with
        | bool c =>
          have : c = b := by simpa [PyData.eqv] using hq
          subst this
          exact ⟨true, fin true (by rw [v_and, ee]; rfl), by simp⟩
        | int i => exact ⟨false, fin false (by rw [v_and, ee]; rfl), by simp⟩
        | _ => simp [PyData.eqv] at hq
      · cases x with
        | str c =>
          have : c = s := by simpa [PyData.eqv] using hq
          subst this
          exact ⟨true, fin true (by rw [v_and, ee]; rfl), by simp⟩
        | _ => simp [PyData.eqv] at hq
  -- a number is due
  have num : ∀ (k : Nat) (x : PyData) (j : Int), (∀ kv, x ≠ .dict kv) → ∃ q : Bool, runF Γ (k + 1) "_law_same" [.d x, .d (.int j)] = .ok (.dat (.bool q), []) ∧ (q = true ↔ x = .int j) := by
    intro k x j nd
    rw [run_eq hS]
    have e0 : ∀ {r : R En Out}, exec (runF Γ k) [] same2 [.dat x, .dat (.int j), .no, .no] = r → exec (runF Γ k) [] (.seq same0 (.seq same1 same2)) [.dat x, .dat (.int j), .no, .no] = r := fun h =>
      (x_seq (ρ1 := [.dat x, .dat (.int j), .no, .no]) (x_condF rfl rfl)).trans ((x_seq (ρ1 := [.dat x, .dat (.int j), .no, .no]) (x_condF rfl rfl)).trans h)
    have fin : ∀ q : Bool, ev (runF Γ k) (.and (.isi (.var 0) [.int]) (.and (.not (.isi (.var 0) [.bool])) (.cm .eq (.var 0) (.var 1)))) [.dat x, .dat (.int j), .no, .no] = .ok (.dat (.bool q), [.dat x, .dat (.int j), .no, .no]) → fnGo (runF Γ k) F_same [.d x, .d (.int j)] = .ok (.dat (.bool q), []) := fun q h =>
      fn_ret (fn := F_same) ⟨rfl, rfl⟩ (e0 (x_ret rfl h)) rfl
    cases x with
    | int i =>
      have ee : ev (runF Γ k) (.cm .eq (.var 0) (.var 1)) [.dat (.int i), .dat (.int j), .no, .no] = .ok (.dat (.bool (decide (i = j))), [.dat (.int i), .dat (.int j), .no, .no]) := e_cm (x := .int i) (y := .int j) (x' := .int i) rfl rfl rfl c_eq
      exact ⟨decide (i = j), fin _ ee, by simp⟩
    | dict kv => exact absurd rfl (nd kv)
    | _ => exact ⟨false, fin false rfl, by simp⟩
  intro t
  induction t with
  | zero =>
    intro ht k x y hx hy
    have nd : ∀ kv, x ≠ .dict kv := fun kv z => by subst z; cases hx
    cases y with
    | none => exact flat1 _ _ _ (okD_shaped hx ht) (okD_shaped hy ht) (.inl rfl) nd
    | bool b => exact flat1 _ _ _ (okD_shaped hx ht) (okD_shaped hy ht) (.inr (.inl ⟨b, rfl⟩)) nd
    | str s => exact flat1 _ _ _ (okD_shaped hx ht) (okD_shaped hy ht) (.inr (.inr ⟨s, rfl⟩)) nd
    | int j => exact num _ _ _ nd
    | list ys => cases hy
    | tuple ys => cases hy
    | dict kv => cases hy
  | succ t ih =>
    intro ht k x y hx hy
    have nd : ∀ kv, x ≠ .dict kv := fun kv z => by subst z; cases hx
    have other : ∀ y, (∃ ys, y = .list ys) ∨ (∃ ys, y = .tuple ys) → x ≠ y → ev (runF Γ (k + t + 1)) (.or (.cm .ne (.isi (.var 0) [.list]) (.isi (.var 1) [.list])) (.cm .ne (.isi (.var 0) [.tuple]) (.isi (.var 1) [.tuple]))) [.dat x, .dat y, .no, .no] = .ok (.dat (.bool true), [.dat x, .dat y, .no, .no]) → ∃ q : Bool, fnGo (runF Γ (k + t + 1)) F_same [.d x, .d y] = .ok (.dat (.bool q), []) ∧ (q = true ↔ x = y) := by
      intro y hy' ne h
      refine ⟨false, fn_ret (fn := F_same) ⟨rfl, rfl⟩ (x_seqR (v := .dat (.bool false)) (ρ1 := [.dat x, .dat y, .no, .no]) (x_condT (ρ1 := [.dat x, .dat y, .no, .no]) ?_ (x_seqR (x_condT h rfl)))) rfl, ⟨fun z => Bool.noConfusion z, fun z => absurd z ne⟩⟩
      rcases hy' with ⟨ys, rfl⟩ | ⟨ys, rfl⟩ <;> rfl
    cases y with
    | none => exact flat1 _ _ _ (okD_shaped hx ht) (okD_shaped hy ht) (.inl rfl) nd
    | bool b => exact flat1 _ _ _ (okD_shaped hx ht) (okD_shaped hy ht) (.inr (.inl ⟨b, rfl⟩)) nd
    | str s => exact flat1 _ _ _ (okD_shaped hx ht) (okD_shaped hy ht) (.inr (.inr ⟨s, rfl⟩)) nd
    | int j => exact num _ _ _ nd
    | list ys =>
      rw [show k + (t + 1) + 1 = (k + t + 1) + 1 by omega, run_eq hS]
      cases x with
      | list xs =>
        have el : ev (runF Γ (k + t + 1)) (.cm .eq (.b1 .len (.var 0)) (.b1 .len (.var 1))) [.dat (.list xs), .dat (.list ys), .no, .no] = .ok (.dat (.bool (decide ((xs.length : Int) = (ys.length : Int)))), [.dat (.list xs), .dat (.list ys), .no, .no]) := e_cm (x := .int (xs.length : Int)) (y := .int (ys.length : Int)) (x' := .int (xs.length : Int)) rfl rfl rfl c_eq
        have fin : ∀ q : Bool, ev (runF Γ (k + t + 1)) (.and (.cm .eq (.b1 .len (.var 0)) (.b1 .len (.var 1))) (.b1 .all sameComp)) [.dat (.list xs), .dat (.list ys), .no, .no] = .ok (.dat (.bool q), [.dat (.list xs), .dat (.list ys), .no, .no]) → fnGo (runF Γ (k + t + 1)) F_same [.d (.list xs), .d (.list ys)] = .ok (.dat (.bool q), []) := fun q h =>
          fn_ret (fn := F_same) ⟨rfl, rfl⟩ (x_seqR (x_condT (ρ1 := [.dat (.list xs), .dat (.list ys), .no, .no]) rfl ((x_seq (x_condF (ρ1 := [.dat (.list xs), .dat (.list ys), .no, .no]) rfl rfl)).trans (x_ret rfl h)))) rfl
        by_cases hl : xs.length = ys.length
        · obtain ⟨q, e, hq⟩ := same_rows t k (ih (by omega) k) (.list xs) (.list ys) xs ys rfl hl (okD_list hx).1 (okD_list hx).2 (okD_list hy).2
          rw [decide_eq_true (by omega)] at el
          exact ⟨q, fin q (by rw [v_and, el]; exact e), by rw [hq]; simp⟩
        · rw [decide_eq_false (by omega)] at el
          exact ⟨false, fin false (by rw [v_and, el]; rfl), ⟨fun z => Bool.noConfusion z, fun z => by cases z; exact absurd rfl hl⟩⟩
      | dict kv => exact absurd rfl (nd kv)
      | _ => exact other _ (.inl ⟨ys, rfl⟩) (by simp) rfl
    | tuple ys =>
      rw [show k + (t + 1) + 1 = (k + t + 1) + 1 by omega, run_eq hS]
      cases x with
      | tuple xs =>
        have el : ev (runF Γ (k + t + 1)) (.cm .eq (.b1 .len (.var 0)) (.b1 .len (.var 1))) [.dat (.tuple xs), .dat (.tuple ys), .no, .no] = .ok (.dat (.bool (decide ((xs.length : Int) = (ys.length : Int)))), [.dat (.tuple xs), .dat (.tuple ys), .no, .no]) := e_cm (x := .int (xs.length : Int)) (y := .int (ys.length : Int)) (x' := .int (xs.length : Int)) rfl rfl rfl c_eq
        have fin : ∀ q : Bool, ev (runF Γ (k + t + 1)) (.and (.cm .eq (.b1 .len (.var 0)) (.b1 .len (.var 1))) (.b1 .all sameComp)) [.dat (.tuple xs), .dat (.tuple ys), .no, .no] = .ok (.dat (.bool q), [.dat (.tuple xs), .dat (.tuple ys), .no, .no]) → fnGo (runF Γ (k + t + 1)) F_same [.d (.tuple xs), .d (.tuple ys)] = .ok (.dat (.bool q), []) := fun q h =>
          fn_ret (fn := F_same) ⟨rfl, rfl⟩ (x_seqR (x_condT (ρ1 := [.dat (.tuple xs), .dat (.tuple ys), .no, .no]) rfl ((x_seq (x_condF (ρ1 := [.dat (.tuple xs), .dat (.tuple ys), .no, .no]) rfl rfl)).trans (x_ret rfl h)))) rfl
        by_cases hl : xs.length = ys.length
        · obtain ⟨q, e, hq⟩ := same_rows t k (ih (by omega) k) (.tuple xs) (.tuple ys) xs ys rfl hl (okD_tuple hx).1 (okD_tuple hx).2 (okD_tuple hy).2
          rw [decide_eq_true (by omega)] at el
          exact ⟨q, fin q (by rw [v_and, el]; exact e), by rw [hq]; simp⟩
        · rw [decide_eq_false (by omega)] at el
          exact ⟨false, fin false (by rw [v_and, el]; rfl), ⟨fun z => Bool.noConfusion z, fun z => by cases z; exact absurd rfl hl⟩⟩
      | dict kv => exact absurd rfl (nd kv)
      | _ => exact other _ (.inr ⟨ys, rfl⟩) (by simp) rfl
    | dict kv => cases hy
end
end Us
end

section
set_option Elab.async false
set_option linter.all false
set_option maxRecDepth 100000
set_option maxHeartbeats 2000000
namespace Us
open PySem (Str PyData)
open L2 (atI ixN)
open Iv
theorem loop_next {bd : En → R En Out} {tg : Tg} {x : PyData} {r : List PyData} {ρ ρ1 ρ2 : En} (h1 : tgGo tg x ρ = some ρ1) (h2 : bd ρ1 = .ok (.next ρ2)) : loopGo bd tg (x :: r) ρ = loopGo bd tg r ρ2 := by
  rw [loopGo]
  simp only [h1, h2]
theorem loop_nil {bd : En → R En Out} {tg : Tg} {ρ : En} : loopGo bd tg [] ρ = .ok (.next ρ) := rfl
theorem loop_ret {bd : En → R En Out} {tg : Tg} {x : PyData} {r : List PyData} {ρ ρ1 ρ2 : En} {v : Val} (h1 : tgGo tg x ρ = some ρ1) (h2 : bd ρ1 = .ok (.ret v ρ2)) : loopGo bd tg (x :: r) ρ = .ok (.ret v ρ2) := by
  rw [loopGo]
  simp only [h1, h2]
section
variable {Γ : Str → Option Fn}
/-- a draw below 10 ** 9, in two parts -/
theorem take_big (h : Γ "_law_take" = some F_take) (k : Nat) {n m : Int} {b : List PyData} (hb : Bx n b) (hn : n < 900000000) (h0 : 10000000 < m) (h1 : m ≤ 1000000000) :
    ∃ r b', runF Γ (k + 2) "_law_take" [.r b, .d (.int m)] = .ok (.dat (.int r), [b']) ∧ 0 ≤ r ∧ r < m ∧ Bx (n + 2) b' := by
  obtain ⟨x, y, z, rfl, hx, hy, hz, hz'⟩ := hb
  by_cases g0 : 0 < x
  · rw [run_eq h]
    refine ⟨x % m, [.int (x / m), .int y, .int z], ?_, Int.emod_nonneg _ (by omega), Int.emod_lt_of_pos _ (by omega), x / m, y, z, rfl, Int.ediv_nonneg hx (by omega), hy, hz, by omega⟩
    simp (disch := omega) only [fnGo, refIdx, slotsOf, v_var, v_c, v_op, v_cm, v_ch, v_neg, v_and, v_or, v_not, v_ite, v_ix, v_b1, v_rev, v_min2, v_max2, v_isi, a_nil, a_ref, a_var, a_c, a_op, a_cm, a_ch, a_neg, a_and, a_or, a_not, a_ite, a_tup, a_lst, a_ix, a_sl, a_call, a_callk, a_rev, a_b1, a_min2, a_max2, a_isi, a_pop, a_comp, w_skip, w_seq, w_set, w_par2, w_unp, w_ret, w_cond, w_brk, w_cont, w_put, w_drop, bnd, bndO, thenO, vwOf, view, reD, ofO, ixD, Val.slot, Val.d, retGo, outs, ownAt, argsD, tgGo, Tg.slots, List.length_cons, List.length_nil, List.replicate_succ, List.replicate_zero, List.cons_append, List.nil_append, Nat.reduceAdd, Nat.reduceSub, and_self, and_true, true_and, if_true, if_false, ite_true, ite_false, reduceCtorEq, Option.map_some, Option.map_none, decide_true, decide_false, List.not_mem_nil, List.mem_cons, List.mem_singleton, not_false_eq_true, not_true_eq_false, or_false, false_or, or_self, List.any_cons, List.any_nil, Bool.false_eq_true, Bool.or_false, Bool.or_self, List.length_replicate, Nat.reduceEqDiff, zs0, zs1, zs2, zs3, zs4, zs5, zs6, zs7, zs8, zs9, zs10, zs11, zs12, zs13, zt0, zt1, zt2, zt3, zt4, zt5, zt6, zt7, zt8, zt9, zt10, zt11, zt12, zt13, F_take, take0, at0, c_gt, g0, o_mod, o_fdiv, ix3_0, List.set_cons_zero]
  · have x0 : x = 0 := by omega
    subst x0
    obtain ⟨r1, b1, e1, _, _, hb1⟩ := take_bx h k (n := n) (m := 10000000) (b := [.int 0, .int y, .int z]) ⟨0, y, z, rfl, hx, hy, hz, hz'⟩ (by omega) (by omega) (by omega)
    obtain ⟨r2, b2, e2, _, _, hb2⟩ := take_bx h k (n := n + 1) (m := m / 10000000 + 1) (b := b1) hb1 (by omega) (by omega) (by omega)
    refine ⟨(r1 + 10000000 * r2) % m, b2, ?_, Int.emod_nonneg _ (by omega), Int.emod_lt_of_pos _ (by omega), hb2.mono (by omega)⟩
    rw [run_eq h]
    have g1 : ∀ (rest : En), ev (runF Γ (k + 1)) (.call "_law_take" (.cons (.ref 0) (.cons (.op .pow (.c (.int 10)) (.c (.int 7))) (.nil)))) (.own [.int 0, .int y, .int z] :: rest) = .ok (.dat (.int r1), .own b1 :: rest) := fun rest =>
      e_call (as := [.r 0, .d (.int 10000000)]) (ps := [.r [.int 0, .int y, .int z], .d (.int 10000000)]) (ρ1 := .own [.int 0, .int y, .int z] :: rest) rfl rfl (by simp [refIs]) e1 rfl
    have g2 : ∀ (rest : En), ev (runF Γ (k + 1)) (.call "_law_take" (.cons (.ref 0) (.cons (.op .add (.op .fdiv (.var 1) (.op .pow (.c (.int 10)) (.c (.int 7)))) (.c (.int 1))) (.nil)))) (.own b1 :: .dat (.int m) :: rest) = .ok (.dat (.int r2), .own b2 :: .dat (.int m) :: rest) := fun rest => by
      refine e_call (as := [.r 0, .d (.int (m / 10000000 + 1))]) (ps := [.r b1, .d (.int (m / 10000000 + 1))]) (ρ1 := .own b1 :: .dat (.int m) :: rest) ?_ rfl (by simp [refIs]) e2 rfl
      simp (disch := omega) only [fnGo, refIdx, slotsOf, v_var, v_c, v_op, v_cm, v_ch, v_neg, v_and, v_or, v_not, v_ite, v_ix, v_b1, v_rev, v_min2, v_max2, v_isi, a_nil, a_ref, a_var, a_c, a_op, a_cm, a_ch, a_neg, a_and, a_or, a_not, a_ite, a_tup, a_lst, a_ix, a_sl, a_call, a_callk, a_rev, a_b1, a_min2, a_max2, a_isi, a_pop, a_comp, w_skip, w_seq, w_set, w_par2, w_unp, w_ret, w_cond, w_brk, w_cont, w_put, w_drop, bnd, bndO, thenO, vwOf, view, reD, ofO, ixD, Val.slot, Val.d, retGo, outs, ownAt, argsD, tgGo, Tg.slots, List.length_cons, List.length_nil, List.replicate_succ, List.replicate_zero, List.cons_append, List.nil_append, Nat.reduceAdd, Nat.reduceSub, and_self, and_true, true_and, if_true, if_false, ite_true, ite_false, reduceCtorEq, Option.map_some, Option.map_none, decide_true, decide_false, List.not_mem_nil, List.mem_cons, List.mem_singleton, not_false_eq_true, not_true_eq_false, or_false, false_or, or_self, List.any_cons, List.any_nil, Bool.false_eq_true, Bool.or_false, Bool.or_self, List.length_replicate, Nat.reduceEqDiff, zs0, zs1, zs2, zs3, zs4, zs5, zs6, zs7, zs8, zs9, zs10, zs11, zs12, zs13, zt0, zt1, zt2, zt3, zt4, zt5, zt6, zt7, zt8, zt9, zt10, zt11, zt12, zt13, o_pow7, o_fdiv, o_add]
    refine fn_ret (ρ' := [.own b2, .dat (.int m), .no, .no, .no]) ⟨rfl, rfl⟩ ?_ rfl
    have e0 : exec (runF Γ (k + 1)) [0] take0 [.own [.int 0, .int y, .int z], .dat (.int m), .no, .no, .no] = .ok (.next [.own [.int 0, .int y, .int z], .dat (.int m), .no, .no, .no]) := by
      simp (disch := omega) only [fnGo, refIdx, slotsOf, v_var, v_c, v_op, v_cm, v_ch, v_neg, v_and, v_or, v_not, v_ite, v_ix, v_b1, v_rev, v_min2, v_max2, v_isi, a_nil, a_ref, a_var, a_c, a_op, a_cm, a_ch, a_neg, a_and, a_or, a_not, a_ite, a_tup, a_lst, a_ix, a_sl, a_call, a_callk, a_rev, a_b1, a_min2, a_max2, a_isi, a_pop, a_comp, w_skip, w_seq, w_set, w_par2, w_unp, w_ret, w_cond, w_brk, w_cont, w_put, w_drop, bnd, bndO, thenO, vwOf, view, reD, ofO, ixD, Val.slot, Val.d, retGo, outs, ownAt, argsD, tgGo, Tg.slots, List.length_cons, List.length_nil, List.replicate_succ, List.replicate_zero, List.cons_append, List.nil_append, Nat.reduceAdd, Nat.reduceSub, and_self, and_true, true_and, if_true, if_false, ite_true, ite_false, reduceCtorEq, Option.map_some, Option.map_none, decide_true, decide_false, List.not_mem_nil, List.mem_cons, List.mem_singleton, not_false_eq_true, not_true_eq_false, or_false, false_or, or_self, List.any_cons, List.any_nil, Bool.false_eq_true, Bool.or_false, Bool.or_self, List.length_replicate, Nat.reduceEqDiff, zs0, zs1, zs2, zs3, zs4, zs5, zs6, zs7, zs8, zs9, zs10, zs11, zs12, zs13, zt0, zt1, zt2, zt3, zt4, zt5, zt6, zt7, zt8, zt9, zt10, zt11, zt12, zt13, take0, at0, c_gt, Int.lt_irrefl]
    show exec (runF Γ (k + 1)) [0] (.seq take0 (.seq take1 _)) [.own [.int 0, .int y, .int z], .dat (.int m), .no, .no, .no] = _
    rw [x_seq e0]
    refine x_seqR ?_
    refine x_condT (ρ1 := [.own [.int 0, .int y, .int z], .dat (.int m), .no, .no, .no]) ?_ (x_ret rfl ?_)
    · simp (disch := omega) only [fnGo, refIdx, slotsOf, v_var, v_c, v_op, v_cm, v_ch, v_neg, v_and, v_or, v_not, v_ite, v_ix, v_b1, v_rev, v_min2, v_max2, v_isi, a_nil, a_ref, a_var, a_c, a_op, a_cm, a_ch, a_neg, a_and, a_or, a_not, a_ite, a_tup, a_lst, a_ix, a_sl, a_call, a_callk, a_rev, a_b1, a_min2, a_max2, a_isi, a_pop, a_comp, w_skip, w_seq, w_set, w_par2, w_unp, w_ret, w_cond, w_brk, w_cont, w_put, w_drop, bnd, bndO, thenO, vwOf, view, reD, ofO, ixD, Val.slot, Val.d, retGo, outs, ownAt, argsD, tgGo, Tg.slots, List.length_cons, List.length_nil, List.replicate_succ, List.replicate_zero, List.cons_append, List.nil_append, Nat.reduceAdd, Nat.reduceSub, and_self, and_true, true_and, if_true, if_false, ite_true, ite_false, reduceCtorEq, Option.map_some, Option.map_none, decide_true, decide_false, List.not_mem_nil, List.mem_cons, List.mem_singleton, not_false_eq_true, not_true_eq_false, or_false, false_or, or_self, List.any_cons, List.any_nil, Bool.false_eq_true, Bool.or_false, Bool.or_self, List.length_replicate, Nat.reduceEqDiff, zs0, zs1, zs2, zs3, zs4, zs5, zs6, zs7, zs8, zs9, zs10, zs11, zs12, zs13, zt0, zt1, zt2, zt3, zt4, zt5, zt6, zt7, zt8, zt9, zt10, zt11, zt12, zt13, o_pow7, c_gt, h0]
    · refine e_op (ρ1 := [.own b2, .dat (.int m), .no, .no, .no]) (x := .int (r1 + 10000000 * r2)) (x' := .int (r1 + 10000000 * r2)) (y := .int m) (vw_of (v := .dat (.int (r1 + 10000000 * r2))) rfl ?_) rfl rfl (o_mod (by omega))
      refine e_op (x := .int r1) (x' := .int r1) (y := .int (10000000 * r2)) (vw_of (v := .dat (.int r1)) rfl (g1 _)) (vw_of (v := .dat (.int (10000000 * r2))) rfl ?_) rfl o_add
      exact e_op (x := .int 10000000) (x' := .int 10000000) (y := .int r2) (vw_of (v := .dat (.int 10000000)) rfl rfl) (vw_of (v := .dat (.int r2)) rfl (g2 _)) rfl (o_mull (by omega) (by omega))
/-! ### the law's own walk over the script -/
/-- right's promise: it keeps the box, and says True -/
def RightOk (Γ : Str → Option Fn) (k : Nat) (c : Int) : Prop := ∀ (n : Int) (b : List PyData), Bx n b → n < 100000000 → ∃ b', runF Γ k "_law_right" [.r b] = .ok (.dat (.bool true), [b']) ∧ Bx (n + c) b'
def lawTurn (T : Int) : E := .comp .rng1 (.cons (.c (.int T)) (.nil)) (.name 3) (.c (.bool true)) (.call "_law_right" (.cons (.ref 2) (.nil)))
def lawBody (T : Int) : C := .seq (.set 2 (.call "_law_box" (.cons (.var 0) (.cons (.var 1) (.nil))))) (.cond (.not (.b1 .all (lawTurn T))) (.ret (.c (.bool false))) (.skip))
def F_lawA (T m : Int) : Fn := ⟨["_law_script"], ["_law_script", "_law_k", "_law_box_here", "_law_turn"], [], .seq (.loop .rng1 (.cons (.op .add (.c (.int 1)) (.min2 (.c (.int m)) (.b1 .len (.var 0)))) (.nil)) (.name 1) (lawBody T)) (.ret (.c (.bool true)))⟩
theorem bools_rep (n : Nat) : boolsOf (List.replicate n (.bool true)) = some (List.replicate n true) := by
  induction n with
  | zero => rfl
  | succ n ih =>
    rw [List.replicate_succ, List.replicate_succ]
    show (boolsOf (List.replicate n (.bool true))).map (true :: ·) = _
    rw [ih]; rfl
theorem all_rep (n : Nat) : b1D .all (.list (List.replicate n (.bool true))) = some (.dat (.bool true)) := by
  show (boolsOf (List.replicate n (.bool true))).map (fun bs => Val.dat (.bool (bs.all id))) = _
  rw [bools_rep]
  simp
theorem turns_ok {k : Nat} {c : Int} (hR : RightOk Γ k c) (hc : 0 ≤ c) (hc2 : c ≤ 100000) (T : Nat) (hT : T ≤ 100) {s0 s1 s3 : Slot} {b : List PyData} (hb : Bx 0 b) :
    ∃ b', ev (runF Γ k) (lawTurn T) [s0, s1, .own b, s3] = .ok (.new (List.replicate T (.bool true)), [s0, s1, .own b', s3]) := by
  obtain ⟨ds, ρ', e, hJ⟩ := comp_range (test := ev (runF Γ k) (.c (.bool true))) (elt := ev (runF Γ k) (.call "_law_right" (.cons (.ref 2) (.nil)))) (tg := .name 3)
    (fun i acc ρ => acc = List.replicate i (.bool true) ∧ ∃ b', ρ = [s0, s1, .own b', .no] ∧ Bx (i * c) b') T 0 (fun i h1 h2 acc ρ ⟨ea, b1, eρ, hb1⟩ => by
      subst eρ
      have hi : i * c ≤ 10000000 := by
        have : (i : Int) ≤ 100 := by omega
        calc (i : Int) * c ≤ 100 * c := Int.mul_le_mul_of_nonneg_right this hc
          _ ≤ 100 * 100000 := Int.mul_le_mul_of_nonneg_left hc2 (by omega)
          _ = 10000000 := by omega
      obtain ⟨b2, e2, hb2⟩ := hR _ b1 hb1 (by omega)
      refine ⟨[s0, s1, .own b1, .dat (.int i)], rfl, .inl ⟨_, .dat (.bool true), [s0, s1, .own b2, .dat (.int i)], rfl, ?_, ?_⟩⟩
      · exact e_call (as := [.r 2]) (ps := [.r b1]) (ρ1 := [s0, s1, .own b1, .dat (.int i)]) rfl rfl (by simp [refIs]) e2 rfl
      · refine ⟨by rw [ea, List.replicate_succ']; rfl, b2, rfl, ?_⟩
        have : ((i + 1 : Nat) : Int) * c = i * c + c := by push_cast; rw [Int.add_mul, Int.one_mul]
        rw [this]; exact hb2) [] [s0, s1, .own b, .no] ⟨rfl, b, rfl, by simpa using hb⟩
  obtain ⟨ed, b', eρ, hb'⟩ := hJ
  subst ed eρ
  refine ⟨b', ?_⟩
  have := e_comp (k := .rng1) (src := .cons (.c (.int T)) (.nil)) (tg := .name 3) (test := .c (.bool true)) (elt := .call "_law_right" (.cons (.ref 2) (.nil))) (cl := runF Γ k) (ρ := [s0, s1, .own b, s3]) (ρ1 := [s0, s1, .own b, s3]) (as := [.d (.int (T : Int))]) rfl (srcRng (by omega)) e (by rw [List.length_replicate]; unfold big; omega)
  rw [Nat.zero_add] at this
  exact this
theorem lawA_ok (hc : Γ "_law_cell_at" = some F_cell_at) (hb : Γ "_law_box" = some F_box) {T m : Nat} (hT : T ≤ 100) (hm : m ≤ 100) (hL : Γ "law" = some (F_lawA T m)) {k : Nat} {c : Int} (hc0 : 0 ≤ c) (hc2 : c ≤ 100000) (hR : RightOk Γ (k + 2) c) (ns : List Int) :
    runF Γ (k + 3) "law" [.d (scD ns)] = .ok (.dat (.bool true), []) := by
  rw [run_eq hL]
  obtain ⟨N, hN, hN2⟩ : ∃ N : Nat, ((1 : Int) + (if ((ns.map PyData.int).length : Int) < (m : Int) then ((ns.map PyData.int).length : Int) else (m : Int))) = (N : Int) ∧ N ≤ 101 := by
    split
    · exact ⟨1 + (ns.map PyData.int).length, by push_cast; rfl, by omega⟩
    · exact ⟨1 + m, by push_cast; rfl, by omega⟩
  obtain ⟨ρ', e, s1, s2, s3, eρ⟩ := loop_range (body := exec (runF Γ (k + 2)) [] (lawBody T)) (tg := .name 1) (fun _ ρ => ∃ s1 s2 s3, ρ = [.dat (scD ns), s1, s2, s3]) N 0 (fun i h1 h2 ρ ⟨s1, s2, s3, eρ⟩ => by
    subst eρ
    obtain ⟨b, eb, hbx⟩ := box_ok hc hb k ns i
    obtain ⟨b', et⟩ := turns_ok hR hc0 hc2 T hT (s0 := .dat (scD ns)) (s1 := .dat (.int i)) (s3 := s3) hbx
    refine ⟨[.dat (scD ns), .dat (.int i), s2, s3], [.dat (scD ns), .dat (.int i), .own b', s3], rfl, .inl ?_, _, _, _, rfl⟩
    have eset : exec (runF Γ (k + 2)) [] (.set 2 (.call "_law_box" (.cons (.var 0) (.cons (.var 1) (.nil))))) [.dat (scD ns), .dat (.int i), s2, s3] = .ok (.next [.dat (scD ns), .dat (.int i), .own b, s3]) :=
      x_set (v := .new b) (ρ1 := [.dat (scD ns), .dat (.int i), s2, s3]) (by simp) (e_call (as := [.d (scD ns), .d (.int i)]) (ps := [.d (scD ns), .d (.int i)]) (ρ1 := [.dat (scD ns), .dat (.int i), s2, s3]) rfl rfl (by simp [refIs]) eb rfl)
    show exec (runF Γ (k + 2)) [] (.seq (.set 2 (.call "_law_box" (.cons (.var 0) (.cons (.var 1) (.nil))))) (.cond (.not (.b1 .all (lawTurn T))) (.ret (.c (.bool false))) (.skip))) [.dat (scD ns), .dat (.int i), s2, s3] = _
    rw [x_seq eset]
    refine x_condF (ρ1 := [.dat (scD ns), .dat (.int i), .own b', s3]) ?_ rfl
    have eall : ev (runF Γ (k + 2)) (.b1 .all (lawTurn T)) [.dat (scD ns), .dat (.int i), .own b, s3] = .ok (.dat (.bool true), [.dat (scD ns), .dat (.int i), .own b', s3]) :=
      e_b1 (vw_of rfl et) (all_rep T)
    rw [v_not, eall]
    rfl) [.dat (scD ns), .no, .no, .no] ⟨_, _, _, rfl⟩
  subst eρ
  refine fn_ret (ρ' := [.dat (scD ns), s1, s2, s3]) ⟨rfl, rfl⟩ ?_ rfl
  show exec (runF Γ (k + 2)) [] (.seq (.loop .rng1 (.cons (.op .add (.c (.int 1)) (.min2 (.c (.int m)) (.b1 .len (.var 0)))) (.nil)) (.name 1) (lawBody T)) (.ret (.c (.bool true)))) [.dat (scD ns), .no, .no, .no] = _
  have eargs : evs (runF Γ (k + 2)) (.cons (.op .add (.c (.int 1)) (.min2 (.c (.int m)) (.b1 .len (.var 0)))) (.nil)) [.dat (scD ns), .no, .no, .no] = .ok ([.d (.int (N : Int))], [.dat (scD ns), .no, .no, .no]) := by
    rw [← hN]
    rfl
  have el : exec (runF Γ (k + 2)) [] (.loop .rng1 (.cons (.op .add (.c (.int 1)) (.min2 (.c (.int m)) (.b1 .len (.var 0)))) (.nil)) (.name 1) (lawBody T)) [.dat (scD ns), .no, .no, .no] = .ok (.next [.dat (scD ns), s1, s2, s3]) := by
    rw [x_loop (as := [.d (.int (N : Int))]) (items := intsD 0 N) rfl eargs (srcRng (by omega))]
    exact e
  rw [x_seq el]
  rfl
end
end Us
end

section
set_option Elab.async false
set_option linter.all false
set_option maxRecDepth 100000
set_option maxHeartbeats 2000000
namespace Us
open PySem (Str PyData)
open L2 (atI ixN)
open Iv
/-! ### short circuits -/
section
variable {cl : Orc} {ρ ρ1 ρ2 : En} {a b : E} {q : Bool} {o : R En (Val × En)}
theorem e_orT (h : ev cl a ρ = .ok (.dat (.bool true), ρ1)) : ev cl (.or a b) ρ = .ok (.dat (.bool true), ρ1) := by rw [v_or, h]; rfl
theorem e_orF (h : ev cl a ρ = .ok (.dat (.bool false), ρ1)) (h2 : ev cl b ρ1 = o) : ev cl (.or a b) ρ = o := by rw [v_or, h]; exact h2
theorem e_andT (h : ev cl a ρ = .ok (.dat (.bool true), ρ1)) (h2 : ev cl b ρ1 = o) : ev cl (.and a b) ρ = o := by rw [v_and, h]; exact h2
theorem e_andF (h : ev cl a ρ = .ok (.dat (.bool false), ρ1)) : ev cl (.and a b) ρ = .ok (.dat (.bool false), ρ1) := by rw [v_and, h]; rfl
theorem e_not (h : ev cl a ρ = .ok (.dat (.bool q), ρ1)) : ev cl (.not a) ρ = .ok (.dat (.bool (!q)), ρ1) := by rw [v_not, h]; rfl
end
/-! ### numbers -/
def isI : PyData → Bool
  | .int _ => true
  | _ => false
theorem okD_ty {t : Nat} {d : PyData} (h : okD t d = true) : (dTy d).isSome = true := by
  cases d <;> first | rfl | (cases t <;> cases h)
def F_num (p : Str) : Fn := ⟨[p], [p], [], .ret (.and (.isi (.var 0) [.int]) (.not (.isi (.var 0) [.bool])))⟩
section
variable {Γ : Str → Option Fn}
theorem num_ok {f p : Str} (h : Γ f = some (F_num p)) (k : Nat) {t : Nat} {d : PyData} (hd : okD t d = true) : runF Γ (k + 1) f [.d d] = .ok (.dat (.bool (isI d)), []) := by
  rw [run_eq h]
  have hy := okD_ty hd
  cases d with
  | dict l => cases hy
  | _ => rfl
theorem ev_num {f p : Str} (h : Γ f = some (F_num p)) (k : Nat) {t : Nat} {d : PyData} (hd : okD t d = true) {i : Nat} {ρ : En} (hi : ρ[i]? = some (.dat d)) : ev (runF Γ (k + 1)) (.call f (.cons (.var i) .nil)) ρ = .ok (.dat (.bool (isI d)), ρ) := by
  refine e_call (as := [.d d]) (ps := [.d d]) (ρ1 := ρ) ?_ rfl (by simp [refIs]) (num_ok h k hd) rfl
  rw [a_var, v_var, hi]
  rfl
/-! ### ascending numbers -/
def someL (n : Int) : Int → List PyData → Bool
  | _, [] => true
  | lo, .int i :: r => (decide (lo ≤ i) && decide (i < n)) && someL n (i + 1) r
  | _, _ :: _ => false
def someT (n : Int) : PyData → Bool
  | .tuple xs => someL n 0 xs
  | _ => false
def apTest : E := .or (.not (.call "is_number" (.cons (.var 3) (.nil)))) (.not (.ch .le .lt (.var 2) (.var 3) (.var 1)))
def apBody : C := .seq (.cond apTest (.ret (.c (.bool false))) (.skip)) (.set 2 (.op .add (.var 3) (.c (.int 1))))
def F_ap : Fn := ⟨["thing", "many"], ["thing", "many", "least", "person"], [], .seq (.cond (.not (.isi (.var 0) [.tuple])) (.ret (.c (.bool false))) (.skip)) (.seq (.set 2 (.c (.int 0))) (.seq (.loop .seq (.cons (.var 0) .nil) (.name 3) apBody) (.ret (.c (.bool true)))))⟩
theorem isI_not {d : PyData} (h : isI d = false) (n lo : Int) (r : List PyData) : someL n lo (d :: r) = false := by
  cases d <;> first | rfl | cases h
theorem ap_loop (hN : Γ "is_number" = some (F_num "thing")) (k : Nat) {t : Nat} {n : Int} {s0 : Slot} : ∀ (xs : List PyData), (∀ x ∈ xs, okD t x = true) → ∀ (lo : Int) (s3 : Slot),
    (someL n lo xs = true ∧ ∃ ρ', loopGo (exec (runF Γ (k + 1)) [] apBody) (.name 3) xs [s0, .dat (.int n), .dat (.int lo), s3] = .ok (.next ρ')) ∨
    (someL n lo xs = false ∧ ∃ ρ', loopGo (exec (runF Γ (k + 1)) [] apBody) (.name 3) xs [s0, .dat (.int n), .dat (.int lo), s3] = .ok (.ret (.dat (.bool false)) ρ'))
  | [], _, lo, s3 => .inl ⟨rfl, _, rfl⟩
  | x :: r, hx, lo, s3 => by
    have hx0 := hx x List.mem_cons_self
    have en := ev_num hN k hx0 (i := 3) (ρ := [s0, .dat (.int n), .dat (.int lo), .dat x]) rfl
    have back : ∀ (v : Bool), ev (runF Γ (k + 1)) apTest [s0, .dat (.int n), .dat (.int lo), .dat x] = .ok (.dat (.bool v), [s0, .dat (.int n), .dat (.int lo), .dat x]) → v = true →
        loopGo (exec (runF Γ (k + 1)) [] apBody) (.name 3) (x :: r) [s0, .dat (.int n), .dat (.int lo), s3] = .ok (.ret (.dat (.bool false)) [s0, .dat (.int n), .dat (.int lo), .dat x]) := fun v h e => by
      subst e
      exact loop_ret rfl (x_seqR (x_condT h rfl))
    cases hi : isI x with
    | false =>
      rw [hi] at en
      exact .inr ⟨isI_not hi _ _ _, _, back true (e_orT (e_not en)) rfl⟩
    | true =>
      cases x with
      | int i =>
        rw [hi] at en
        have ech : ev (runF Γ (k + 1)) apTest [s0, .dat (.int n), .dat (.int lo), .dat (.int i)] = .ok (.dat (.bool (!(decide (lo ≤ i) && decide (i < n)))), [s0, .dat (.int n), .dat (.int lo), .dat (.int i)]) := by
          refine e_orF (e_not en) (e_not ?_)
          rw [v_ch]
          by_cases h1 : lo ≤ i
          · simp only [vwOf, zs2, zs3, zs1, view, ofO, bnd, cmI, decide_eq_true h1, Bool.true_and, Option.map_some]
          · simp only [vwOf, zs2, zs3, zs1, view, ofO, bnd, cmI, decide_eq_false h1, Bool.false_and]
        cases hb : (decide (lo ≤ i) && decide (i < n)) with
        | false =>
          rw [hb] at ech
          refine .inr ⟨?_, _, back true ech rfl⟩
          show ((decide (lo ≤ i) && decide (i < n)) && someL n (i + 1) r) = false
          rw [hb]; rfl
        | true =>
          rw [hb] at ech
          have step : exec (runF Γ (k + 1)) [] apBody [s0, .dat (.int n), .dat (.int lo), .dat (.int i)] = .ok (.next [s0, .dat (.int n), .dat (.int (i + 1)), .dat (.int i)]) := by
            unfold apBody
            rw [x_seq (x_condF ech rfl)]
            rfl
          have e0 : someL n lo (.int i :: r) = someL n (i + 1) r := by
            show ((decide (lo ≤ i) && decide (i < n)) && someL n (i + 1) r) = _
            rw [hb, Bool.true_and]
          rw [e0, loop_next rfl step]
          exact ap_loop hN k r (fun y hy => hx y (List.mem_cons_of_mem _ hy)) (i + 1) _
      | _ => cases hi
theorem ap_ok (hN : Γ "is_number" = some (F_num "thing")) (hA : Γ "are_people" = some F_ap) (k : Nat) {t : Nat} {n : Int} {d : PyData} (hd : okD (t + 1) d = true) : runF Γ (k + 2) "are_people" [.d d, .d (.int n)] = .ok (.dat (.bool (someT n d)), []) := by
  rw [run_eq hA]
  have hy := okD_ty hd
  cases d with
  | dict l => cases hy
  | tuple xs =>
    have hx := (okD_tuple hd).2
    have pre : ∀ rest : C, exec (runF Γ (k + 1)) [] (.seq (.cond (.not (.isi (.var 0) [.tuple])) (.ret (.c (.bool false))) (.skip)) (.seq (.set 2 (.c (.int 0))) rest)) [.dat (.tuple xs), .dat (.int n), .no, .no] = exec (runF Γ (k + 1)) [] rest [.dat (.tuple xs), .dat (.int n), .dat (.int 0), .no] := fun rest => rfl
    have el : ∀ ρ0 : En, exec (runF Γ (k + 1)) [] (.loop .seq (.cons (.var 0) .nil) (.name 3) apBody) [.dat (.tuple xs), .dat (.int n), .dat (.int 0), .no] = loopGo (exec (runF Γ (k + 1)) [] apBody) (.name 3) xs [.dat (.tuple xs), .dat (.int n), .dat (.int 0), .no] := fun _ =>
      x_loop (as := [.d (.tuple xs)]) (items := xs) rfl rfl rfl
    rcases ap_loop hN k (n := n) (s0 := .dat (.tuple xs)) xs hx 0 .no with ⟨h1, ρ', h2⟩ | ⟨h1, ρ', h2⟩
    · refine fn_ret (ρ' := ρ') ⟨rfl, rfl⟩ ?_ rfl
      show exec (runF Γ (k + 1)) [] (.seq _ (.seq _ (.seq (.loop .seq (.cons (.var 0) .nil) (.name 3) apBody) (.ret (.c (.bool true)))))) [.dat (.tuple xs), .dat (.int n), .no, .no] = _
      rw [pre, x_seq ((el []).trans h2)]
      show R.ok (Out.ret (.dat (.bool true)) ρ') = R.ok (Out.ret (.dat (.bool (someL n 0 xs))) ρ')
      rw [h1]
    · refine fn_ret (ρ' := ρ') ⟨rfl, rfl⟩ ?_ rfl
      show exec (runF Γ (k + 1)) [] (.seq _ (.seq _ (.seq (.loop .seq (.cons (.var 0) .nil) (.name 3) apBody) (.ret (.c (.bool true)))))) [.dat (.tuple xs), .dat (.int n), .no, .no] = _
      rw [pre, x_seqR ((el []).trans h2)]
      show R.ok (Out.ret (.dat (.bool false)) ρ') = R.ok (Out.ret (.dat (.bool (someL n 0 xs))) ρ')
      rw [h1]
  | _ => rfl
end
end Us
end

section
set_option Elab.async false
set_option linter.all false
set_option maxRecDepth 100000
set_option maxHeartbeats 4000000
/-! laws of the shape "all right(box(k)) for k" -/
namespace Us
open PySem (Str PyData)
open Iv
section
variable {Γ : Str → Option Fn}
def F_lawB (m : Int) : Fn := ⟨["_law_script"], ["_law_script", "_law_k"], [], .ret (.b1 .all (.comp .rng1 (.cons (.op .add (.c (.int 1)) (.min2 (.c (.int m)) (.b1 .len (.var 0)))) (.nil)) (.name 1) (.c (.bool true)) (.callf "_law_right" (.call "_law_box" (.cons (.var 0) (.cons (.var 1) (.nil)))))))⟩
theorem e_callf {cl : Orc} {f : Str} {a : E} {ρ ρ1 : En} {ds ds' : List PyData} {w : Val} (h : ev cl a ρ = .ok (.new ds, ρ1)) (h2 : cl f [.r ds] = .ok (w, [ds'])) : ev cl (.callf f a) ρ = .ok (w, ρ1) := by
  show (bnd (ev cl a ρ) fun v ρ1 => match v with
    | .new ds => match cl f [.r ds] with
      | .ok (w, [_]) => .ok (w, ρ1)
      | .exc x [_] => .exc x ρ1
      | _ => .bad
    | _ => .bad) = _
  rw [h]
  show (match cl f [.r ds] with
      | .ok (w, [_]) => R.ok (w, ρ1)
      | .exc x [_] => .exc x ρ1
      | _ => .bad) = _
  rw [h2]
theorem lawB_ok (hc : Γ "_law_cell_at" = some F_cell_at) (hb : Γ "_law_box" = some F_box) {m : Nat} (hm : m ≤ 100) (hL : Γ "law" = some (F_lawB m)) {k : Nat} {c : Int} (hR : RightOk Γ (k + 2) c) (ns : List Int) :
    runF Γ (k + 3) "law" [.d (scD ns)] = .ok (.dat (.bool true), []) := by
  rw [run_eq hL]
  obtain ⟨N, hN, hN2⟩ : ∃ N : Nat, ((1 : Int) + (if ((ns.map PyData.int).length : Int) < (m : Int) then ((ns.map PyData.int).length : Int) else (m : Int))) = (N : Int) ∧ N ≤ 101 := by
    split
    · exact ⟨1 + (ns.map PyData.int).length, by push_cast; rfl, by omega⟩
    · exact ⟨1 + m, by push_cast; rfl, by omega⟩
  obtain ⟨ds, ρ', e, hJ⟩ := comp_range (test := ev (runF Γ (k + 2)) (.c (.bool true))) (elt := ev (runF Γ (k + 2)) (.callf "_law_right" (.call "_law_box" (.cons (.var 0) (.cons (.var 1) (.nil)))))) (tg := .name 1)
    (fun i acc ρ => acc = List.replicate i (.bool true) ∧ ρ = [.dat (scD ns), .no]) N 0 (fun i h1 h2 acc ρ ⟨ea, eρ⟩ => by
      subst eρ
      obtain ⟨b, eb, hbx⟩ := box_ok hc hb k ns i
      obtain ⟨b2, e2, hb2⟩ := hR _ b hbx (by omega)
      refine ⟨[.dat (scD ns), .dat (.int i)], rfl, .inl ⟨_, .dat (.bool true), [.dat (scD ns), .dat (.int i)], rfl, ?_, ?_⟩⟩
      · exact e_callf (e_call (as := [.d (scD ns), .d (.int i)]) (ps := [.d (scD ns), .d (.int i)]) (ρ1 := [.dat (scD ns), .dat (.int i)]) rfl rfl (by simp [refIs]) eb rfl) e2
      · exact ⟨by rw [ea, List.replicate_succ']; rfl, rfl⟩) [] [.dat (scD ns), .no] ⟨rfl, rfl⟩
  obtain ⟨ed, eρ⟩ := hJ
  subst ed eρ
  refine fn_ret (ρ' := [.dat (scD ns), .no]) ⟨rfl, rfl⟩ ?_ rfl
  have eargs : evs (runF Γ (k + 2)) (.cons (.op .add (.c (.int 1)) (.min2 (.c (.int m)) (.b1 .len (.var 0)))) (.nil)) [.dat (scD ns), .no] = .ok ([.d (.int (N : Int))], [.dat (scD ns), .no]) := by
    rw [← hN]
    rfl
  rw [Nat.zero_add] at e
  have ec := e_comp (k := .rng1) (src := .cons (.op .add (.c (.int 1)) (.min2 (.c (.int m)) (.b1 .len (.var 0)))) (.nil)) (tg := .name 1) (test := .c (.bool true)) (elt := .callf "_law_right" (.call "_law_box" (.cons (.var 0) (.cons (.var 1) (.nil))))) (cl := runF Γ (k + 2)) (ρ := [.dat (scD ns), .no]) (ρ1 := [.dat (scD ns), .no]) (as := [.d (.int (N : Int))]) eargs (srcRng (by omega)) e (by rw [List.length_replicate]; unfold big; omega)
  exact x_ret rfl (e_b1 (vw_of rfl ec) (all_rep N))
end
end Us
end

section
set_option Elab.async false
set_option linter.all false
set_option maxRecDepth 100000
set_option maxHeartbeats 4000000
namespace K36u
open PySem (Str PyData)
open Iv Us
abbrev Γ := Lw.Gam
theorem hT : Γ "_law_take" = some F_take := by kernel_rfl
theorem hC : Γ "_law_cell_at" = some F_cell_at := by kernel_rfl
theorem hB : Γ "_law_box" = some F_box := by kernel_rfl
theorem hO : Γ "_law_of" = some Lw.f__law_of := by kernel_rfl
theorem hL : Γ "law" = some (F_lawB (3 : Nat)) := by kernel_rfl
theorem hR : Γ "_law_right" = some Lw.f__law_right := by kernel_rfl
def tl : C → C
  | .seq _ b => b
  | c => c
def r0 : C := .set 1 (.call "_law_take" (.cons (.ref 0) (.cons (.call "_law_of" (.cons (.ref 0) (.cons (.lst (.cons (.c (.int 1)) (.cons (.c (.int 6)) (.nil)))) (.nil)))) (.nil))))
def r1 : C := tl Lw.b__law_right
theorem right_is : Lw.b__law_right = .seq r0 r1 := by kernel_rfl
/-- the first slot behind a run that says True -/
def slot0 : R En Out → Option Slot
  | .ok (.ret (.dat (.bool true)) ρ) => ρ[0]?
  | _ => none
theorem of_slot0 {r : R En Out} {s : Slot} (h : slot0 r = some s) : ∃ ρ, r = .ok (.ret (.dat (.bool true)) ρ) ∧ ρ[0]? = some s := by
  unfold slot0 at h
  split at h
  · exact ⟨_, rfl, h⟩
  · cases h
theorem of_ok36 (k : Nat) {n : Int} {b xs : List PyData} (hb : Bx n b) (hn : n < 800000000) (h0 : xs ≠ []) (hm : xs.length ≤ 1000) :
    ∃ (d : PyData) (b' : List PyData), runF Γ (k + 2) "_law_of" [.r b, .d (.list xs)] = .ok (.dat d, [b']) ∧ d ∈ xs ∧ Bx (n + 1) b' := by
  rw [run_eq hO]
  have hl : 0 < xs.length := List.length_pos_iff.mpr h0
  obtain ⟨r, b1, e, h4, h6, h7⟩ := ev_take hT k (mi := (xs.length : Int)) (m := .b1 .len (.var 1)) (rest := [.dat (.list xs)]) hb (by omega) (by omega) (by omega) rfl
  have hr : r.toNat < xs.length := by omega
  refine ⟨xs[r.toNat], b1, ?_, List.getElem_mem hr, h7⟩
  have ha := at_nat hr
  rw [Int.toNat_of_nonneg h4] at ha
  have ei : ev (runF Γ (k + 1)) (.ix (.var 1) (.call "_law_take" (.cons (.ref 0) (.cons (.b1 .len (.var 1)) (.nil))))) [.own b, .dat (.list xs)] = .ok (.dat xs[r.toNat], [.own b1, .dat (.list xs)]) := by
    simp only [fnGo, refIdx, slotsOf, v_var, v_c, v_op, v_cm, v_ch, v_neg, v_and, v_or, v_not, v_ite, v_ix, v_b1, v_rev, v_min2, v_max2, v_isi, a_nil, a_ref, a_var, a_c, a_op, a_cm, a_ch, a_neg, a_and, a_or, a_not, a_ite, a_tup, a_lst, a_ix, a_sl, a_call, a_callk, a_rev, a_b1, a_min2, a_max2, a_isi, a_pop, a_comp, w_skip, w_seq, w_set, w_par2, w_unp, w_ret, w_cond, w_brk, w_cont, w_put, w_drop, bnd, bndO, thenO, vwOf, view, reD, ofO, ixD, Val.slot, Val.d, retGo, outs, ownAt, argsD, tgGo, Tg.slots, List.length_cons, List.length_nil, List.replicate_succ, List.replicate_zero, List.cons_append, List.nil_append, Nat.reduceAdd, Nat.reduceSub, and_self, and_true, true_and, if_true, if_false, ite_true, ite_false, reduceCtorEq, Option.map_some, Option.map_none, decide_true, decide_false, List.not_mem_nil, List.mem_cons, List.mem_singleton, not_false_eq_true, not_true_eq_false, or_false, false_or, or_self, List.any_cons, List.any_nil, Bool.false_eq_true, Bool.or_false, Bool.or_self, List.length_replicate, Nat.reduceEqDiff, zs0, zs1, zs2, zs3, zs4, zs5, zs6, zs7, zs8, zs9, zs10, zs11, zs12, zs13, zt0, zt1, zt2, zt3, zt4, zt5, zt6, zt7, zt8, zt9, zt10, zt11, zt12, zt13, e, ha]
  exact fn_ret (fn := Lw.f__law_of) ⟨rfl, rfl⟩ (x_ret rfl ei) rfl
theorem tail0 (b : List PyData) : slot0 (exec (runF Γ 20) [0] r1 [.own b, .dat (.int 0), .no, .no]) = some (.own b) := by kernel_rfl
theorem tail1 (b : List PyData) : slot0 (exec (runF Γ 20) [0] r1 [.own b, .dat (.int 1), .no, .no]) = some (.own b) := by kernel_rfl
theorem tail2 (b : List PyData) : slot0 (exec (runF Γ 20) [0] r1 [.own b, .dat (.int 2), .no, .no]) = some (.own b) := by kernel_rfl
theorem tail3 (b : List PyData) : slot0 (exec (runF Γ 20) [0] r1 [.own b, .dat (.int 3), .no, .no]) = some (.own b) := by kernel_rfl
theorem tail4 (b : List PyData) : slot0 (exec (runF Γ 20) [0] r1 [.own b, .dat (.int 4), .no, .no]) = some (.own b) := by kernel_rfl
theorem tail5 (b : List PyData) : slot0 (exec (runF Γ 20) [0] r1 [.own b, .dat (.int 5), .no, .no]) = some (.own b) := by kernel_rfl
theorem tail (b : List PyData) (x : Int) (h0 : 0 ≤ x) (h1 : x < 6) : slot0 (exec (runF Γ 20) [0] r1 [.own b, .dat (.int x), .no, .no]) = some (.own b) := by
  have h : x = 0 ∨ x = 1 ∨ x = 2 ∨ x = 3 ∨ x = 4 ∨ x = 5 := by omega
  rcases h with rfl | rfl | rfl | rfl | rfl | rfl
  · exact tail0 b
  · exact tail1 b
  · exact tail2 b
  · exact tail3 b
  · exact tail4 b
  · exact tail5 b
theorem right_ok : RightOk Γ 21 2 := by
  intro n b hb hn
  obtain ⟨d, b1, e1, hd, h1⟩ := of_ok36 18 (xs := [.int 1, .int 6]) hb (by omega) (by simp) (by simp)
  obtain ⟨m, rfl, m1, m2⟩ : ∃ m : Int, d = .int m ∧ 1 ≤ m ∧ m ≤ 6 := by
    simp only [List.mem_cons, List.not_mem_nil, or_false] at hd
    rcases hd with rfl | rfl
    · exact ⟨1, rfl, by omega, by omega⟩
    · exact ⟨6, rfl, by omega, by omega⟩
  obtain ⟨x, b2, e2, l2, u2, h2⟩ := take_bx hT 19 (m := m) h1 (by omega) (by omega) (by omega)
  obtain ⟨ρ', er, e0⟩ := of_slot0 (tail b2 x l2 (by omega))
  refine ⟨b2, ?_, by have e : n + 1 + 1 = n + 2 := by omega
                     rw [← e]; exact h2⟩
  rw [run_eq hR]
  have eo : ev (runF Γ 20) (.call "_law_of" (.cons (.ref 0) (.cons (.lst (.cons (.c (.int 1)) (.cons (.c (.int 6)) (.nil)))) (.nil)))) [.own b, .no, .no, .no] = .ok (.dat (.int m), [.own b1, .no, .no, .no]) :=
    e_call (as := [.r 0, .d (.list [.int 1, .int 6])]) (ps := [.r b, .d (.list [.int 1, .int 6])]) (ρ1 := [.own b, .no, .no, .no]) rfl rfl (by simp [refIs]) e1 rfl
  have es : evs (runF Γ 20) (.cons (.call "_law_of" (.cons (.ref 0) (.cons (.lst (.cons (.c (.int 1)) (.cons (.c (.int 6)) (.nil)))) (.nil)))) .nil) [.own b, .no, .no, .no] = .ok ([.d (.int m)], [.own b1, .no, .no, .no]) :=
    e_cons rfl eo rfl
  have ea : evs (runF Γ 20) (.cons (.ref 0) (.cons (.call "_law_of" (.cons (.ref 0) (.cons (.lst (.cons (.c (.int 1)) (.cons (.c (.int 6)) (.nil)))) (.nil)))) .nil)) [.own b, .no, .no, .no] = .ok ([.r 0, .d (.int m)], [.own b1, .no, .no, .no]) := by
    show (bnd (evs (runF Γ 20) (.cons (.call "_law_of" (.cons (.ref 0) (.cons (.lst (.cons (.c (.int 1)) (.cons (.c (.int 6)) (.nil)))) (.nil)))) .nil) [.own b, .no, .no, .no]) fun as ρ1 => .ok (.r 0 :: as, ρ1)) = _
    rw [es]
    rfl
  have c0 : exec (runF Γ 20) [0] r0 [.own b, .no, .no, .no] = .ok (.next [.own b2, .dat (.int x), .no, .no]) :=
    x_set (v := .dat (.int x)) (ρ1 := [.own b2, .no, .no, .no]) (by simp) (e_call (as := [.r 0, .d (.int m)]) (ps := [.r b1, .d (.int m)]) (ρ1 := [.own b1, .no, .no, .no]) ea rfl (by simp [refIs]) e2 rfl)
  refine fn_ret (ρ' := ρ') ⟨rfl, rfl⟩ ?_ ?_
  · show exec (runF Γ 20) [0] Lw.b__law_right [.own b, .no, .no, .no] = _
    rw [right_is, x_seq c0]
    exact er
  · show outs ρ' [0] = some [b2]
    simp [outs, e0]
theorem main (ns : List Int) : Iv.runF Lw.Gam 22 "law" [.d (.dict [(.none, .list (ns.map .int))])] = .ok (.dat (.bool true), []) :=
  lawB_ok (m := 3) hC hB (by omega) hL (k := 19) right_ok ns
end K36u
set_option maxRecDepth 100000 in
set_option maxHeartbeats 8000000 in
theorem PySem.Challenge.cw_enoughcame_k36_known_reports_holds : PySem.Challenge.rw_enoughcame_k36_known_reports.Holds :=
  Lw.ends 21 ⟨rfl, by decide, by decide⟩ fun ns _ => K36u.main ns
end
