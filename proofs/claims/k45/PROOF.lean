import PyProof.Rows.All
import Wide.All
import OpenK.AllK
import Wide.FinOn
import PyProof.EqAt
import PyProof.EqKinds
import PyProof.TupleCall
import KE.KIntText
import PyProof.Rows.ReprOcc
import PyProof.ExcInit
import PyProof.ExcClass2
import PyProof.InstStoreFacts
import PyProof.NsDelKeeps
import KE.KSortTup
import KE.KLam
import PyProof.DictValues
import PyProof.ReprRoads
import KE.KDictList
import PyProof.AttrMissHeap
import KE.KDictOf
import PyProof.EnumMake
import PyProof.ZipIter
import PyProof.SumWalk
import PyProof.DictWalks
import PySem.Challenge.RW_greywait_k45_whole_no_hand_is_idle
-- CHANGE: your row's module here, as the last of these rows
set_option Elab.async false
set_option linter.all false
set_option maxRecDepth 100000
/-! THE HAND LAYER, for ints, bools, texts, own classes, LISTS and tuples (index, slices, in, append, pop ..), calls, loops. Paste it whole ahead of your own text; what your proof does not reach may be deleted. -/
namespace L2
open PySem PySem.Spec PyProof.Rows

abbrev Key := Sum Int Str
def keyIs : Key → Value → Bool
  | .inl k, v => Value.isInt k v
  | .inr x, v => Value.isStrOf x v
def keyH (w : World) : Key → Int
  | .inl k => hashInt k
  | .inr x => hashStr w x
theorem keyIs_shape : ∀ {k : Key} {v : Value}, keyIs k v = true → (∃ i t, k = Sum.inl i ∧ v = Value.int i t) ∨ (∃ x t, k = Sum.inr x ∧ v = Value.str x t)
  | .inl i, v, h => by
    obtain ⟨t, e⟩ := Value.isInt_shape (k := i) (v := v) h
    exact .inl ⟨i, t, rfl, e⟩
  | .inr x, v, h => by
    obtain ⟨t, e⟩ := Value.isStrOf_shape (x := x) (v := v) h
    exact .inr ⟨x, t, rfl, e⟩
theorem keyIs_int (i : Int) (t : Tok) : keyIs (.inl i) (.int i t) = true := by simp [keyIs, Value.isInt]
theorem keyIs_str (x : Str) (t : Tok) : keyIs (.inr x) (.str x t) = true := by simp [keyIs, Value.isStrOf]
theorem key_ll (a b : Int) : decide ((Sum.inl a : Key) = Sum.inl b) = (a == b) := by
  by_cases e : a = b
  · subst e; simp
  · have h : ¬ (Sum.inl a : Key) = Sum.inl b := fun q => e (Sum.inl.inj q)
    rw [decide_eq_false h]
    exact (beq_eq_false_iff_ne.mpr e).symm
theorem key_rr (a b : Str) : decide ((Sum.inr a : Key) = Sum.inr b) = decide (a = b) := by
  by_cases e : a = b
  · subst e; simp
  · have h : ¬ (Sum.inr a : Key) = Sum.inr b := fun q => e (Sum.inr.inj q)
    rw [decide_eq_false h, decide_eq_false e]
theorem key_lr (a : Int) (b : Str) : decide ((Sum.inl a : Key) = Sum.inr b) = false := decide_eq_false (fun q => nomatch q)
theorem key_rl (a : Str) (b : Int) : decide ((Sum.inr a : Key) = Sum.inl b) = false := decide_eq_false (fun q => nomatch q)

def mixKind (prog : Program) (w : World) : PySem.KeyKind prog w Key where
  is := keyIs
  hash := keyH w
  inj := fun v a b ha hb => by
    rcases keyIs_shape ha with ⟨i, t, rfl, rfl⟩ | ⟨x, t, rfl, rfl⟩
    · rcases keyIs_shape hb with ⟨j, u, rfl, e⟩ | ⟨y, u, rfl, e⟩
      · injection e with e1 _; rw [e1]
      · exact nomatch e
    · rcases keyIs_shape hb with ⟨j, u, rfl, e⟩ | ⟨y, u, rfl, e⟩
      · exact nomatch e
      · injection e with e1 _; rw [e1]
  byValue := fun k v h => by
    rcases keyIs_shape h with ⟨i, t, rfl, rfl⟩ | ⟨x, t, rfl, rfl⟩ <;> rfl
  pyHash := fun hv h => by
    rcases keyIs_shape hv with ⟨i, t, rfl, rfl⟩ | ⟨x, t, rfl, rfl⟩
    · exact wpAny_pyHash_int h
    · exact wpAny_pyHash_str h
  eqBool := fun hu hv h => by
    rcases keyIs_shape hu with ⟨i, t, rfl, rfl⟩ | ⟨x, t, rfl, rfl⟩
    · rcases keyIs_shape hv with ⟨j, u, rfl, rfl⟩ | ⟨y, u, rfl, rfl⟩
      · rw [key_ll] at h; exact wpAny_eqBool_int h
      · rw [key_lr] at h; exact SeqAt.EqAt.int_str i t y u _ _ _ _ h
    · rcases keyIs_shape hv with ⟨j, u, rfl, rfl⟩ | ⟨y, u, rfl, rfl⟩
      · rw [key_rl] at h; exact SeqAt.EqAt.str_int x t j u _ _ _ _ h
      · rw [key_rr] at h; exact wpAny_eqBool_str h
  «strs» := fun k x t v h => by
    rcases keyIs_shape h with ⟨i, u, rfl, e⟩ | ⟨y, u, rfl, e⟩
    · exact nomatch e
    · injection e with e1 _
      subst e1
      cases v <;> rfl

theorem mixKind_is (prog : Program) (w : World) (k : Key) (v : Value) : (mixKind prog w).is k v = keyIs k v := rfl
theorem mixKind_int (prog : Program) (w : World) (i : Int) (t : Tok) : (mixKind prog w).is (.inl i) (.int i t) = true := keyIs_int i t
theorem mixKind_str (prog : Program) (w : World) (x : Str) (t : Tok) : (mixKind prog w).is (.inr x) (.str x t) = true := keyIs_str x t
end L2

namespace L2
open PySem PySem.Spec PyProof.Rows

inductive V where
  | non | bl (b : Bool) | int (i : Int) | str (x : Str) | byt (b : Array UInt8) | flt (b : UInt64) | ref (a : Addr) | ty (n : String)
  deriving DecidableEq

def RelV : V → Value → Prop
  | .non, u => u = Value.none
  | .bl b, u => u = Value.bool b
  | .int i, u => ∃ t, u = Value.int i t
  | .str x, u => ∃ t, u = Value.str x t
  | .byt b, u => ∃ t, u = Value.bytes b t
  | .flt b, u => ∃ t, u = Value.float b t
  | .ref a, u => u = Value.ref a
  | .ty n, u => u = Value.type n

abbrev Vals : List V → List Value → Prop := Paired RelV
theorem Vals.length {xs : List V} {us : List Value} (r : Vals xs us) : xs.length = us.length := Paired.length r
theorem Vals.get : ∀ {xs : List V} {us : List Value} {i : Nat} {x : V}, Vals xs us → xs[i]? = some x → ∃ u, us[i]? = some u ∧ RelV x u
  | _, _, _, _, .nil, e => by simp at e
  | _, _, 0, _, .cons r _, e => by simp at e; subst e; exact ⟨_, rfl, r⟩
  | _, _, i + 1, x, .cons _ t, e => by
    obtain ⟨u, h1, h2⟩ := Vals.get (i := i) (x := x) t (by simpa using e)
    exact ⟨u, by simpa using h1, h2⟩
theorem Vals.append : ∀ {xs ys : List V} {us ws : List Value}, Vals xs us → Vals ys ws → Vals (xs ++ ys) (us ++ ws)
  | _, _, _, _, .nil, s => s
  | _, _, _, _, .cons r t, s => .cons r (Vals.append t s)
theorem Vals.take : ∀ {xs : List V} {us : List Value} (n : Nat), Vals xs us → Vals (xs.take n) (us.take n)
  | _, _, 0, _ => .nil
  | _, _, _ + 1, .nil => .nil
  | _, _, n + 1, .cons r t => .cons r (Vals.take n t)
theorem Vals.drop : ∀ {xs : List V} {us : List Value} (n : Nat), Vals xs us → Vals (xs.drop n) (us.drop n)
  | _, _, 0, r => r
  | _, _, _ + 1, .nil => .nil
  | _, _, n + 1, .cons _ t => Vals.drop n t
def RelO : Option V → Option Value → Prop
  | some v, some u => RelV v u
  | none, none => True
  | _, _ => False
def KV {κ : Type} : List (κ × V) → List (κ × Value) → Prop := Paired fun (p : κ × V) (q : κ × Value) => p.1 = q.1 ∧ RelV p.2 q.2

def kV : Key → V
  | .inl i => .int i
  | .inr x => .str x

inductive HO where
    | lst (xs : List V)
    | tup (xs : List V)
    | dK (kvs : List (Key × V)) | dT (kvs : List (List Key × V))
    | set (S : Int → Bool) (n : Nat)
    | ins (C dx : Addr) (fs : List (Str × V))
    | own (x : Addr)
    | xd (fs : List (Str × V))
    | met (f x : Addr)
    | rng (lo hi : Int)
    | frz (o : Obj) (u : HO)
    | tbl (lp : Pos) (lq : Str)
    | ext (φ : Heap → Prop)

abbrev Hp := Addr → Option HO
def upd (H : Hp) (a : Addr) (o : HO) : Hp := fun b => if b = a then some o else H b
theorem upd_same {H : Hp} {a : Addr} {o : HO} : upd H a o a = some o := by unfold upd; rw [if_pos rfl]
theorem upd_ne {H : Hp} {a b : Addr} {o : HO} (h : b ≠ a) : upd H a o b = H b := by unfold upd; rw [if_neg h]
theorem ne_of {H : Hp} {a b : Addr} {o u : HO} (h : H a = some o) (h' : H b = some u) (d : o ≠ u) : a ≠ b := by
  intro e; subst e; rw [h] at h'; exact d (Option.some.inj h')
theorem ne_of_none {H : Hp} {a b : Addr} {o : HO} (h : H a = some o) (h' : H b = none) : a ≠ b := by
  intro e; subst e; rw [h] at h'; cases h'

section
variable (P : Program) (w : World)
def ObjOk (H : Hp) (h : Heap) (a : Addr) : HO → Prop
  | .lst xs => xs.length ≤ sizeLine ∧ ∃ (its : List Value) (n : Nat), Vals xs its ∧ h.get? a = some { cls := .type "list", data := .seq its.toArray n }
  | .tup xs => xs.length ≤ sizeLine ∧ ∃ its : List Value, Vals xs its ∧ IsTup h a its.toArray
  | .dK kvs => kvs.length ≤ sizeLine ∧ (a == sysModules) = false ∧ ∃ vs, KV kvs vs ∧ h.DictOf (mixKind P w) a vs
  | .dT kvs => kvs.length ≤ sizeLine ∧ (a == sysModules) = false ∧ ∃ xs : List (List Key × Addr × Value),
      Paired (fun (p : List Key × V) (q : List Key × Addr × Value) => p.1 = q.1 ∧ H q.2.1 = some (.tup (p.1.map kV)) ∧ RelV p.2 q.2.2) kvs xs ∧
      ∃ o es ep, h.get? a = some o ∧ o.ExactDict ∧ o.data = .dict es ep ∧ es.toList = xs.map (entryOfKey (tupleKind (mixKind P w))) ∧ (xs.map (·.1)).Nodup
  | .set S n => h.SetOf (intKind P w) a S n
  | .ins C dx fs => H dx = some (.own a) ∧ fs.length ≤ 1000 ∧ dx ≠ a ∧ h.get? a = some (PySem.W.instObj C dx) ∧
      ∃ mA, h.Ns1 dx mA ∧ (∀ f, RelO (fs.lookup f) (mA f)) ∧ PySem.Within mA (fs.map (·.1))
  | .own _ => ∃ o, h.get? a = some o
  | .xd fs => ∃ mA, h.Ns1 a mA ∧ ∀ f, RelO (fs.lookup f) (mA f)
  | .rng lo hi => ∃ t u v, h.get? a = some { cls := .type "range", data := .fields #[.int lo t, .int hi u, .int 1 v] }
  | .frz o u => h.get? a = some o ∧ ObjOk H h a u
  | .tbl lp lq => ∃ vs : Array Value, h.get? a = some { cls := .none, data := .fields vs } ∧ TriplesOk vs.toList ∧ (codeAmong lp vs.toList = none ∨ ∃ c oc us t, codeAmong lp vs.toList = some (.ref c) ∧ H c = some (.frz oc (.own c)) ∧ oc.data = .fields us ∧ us[1]? = some (.str lq t))
  | .met f x => h.get? a = some (PySem.W.methodObj (.ref f) (.ref x))
  | .ext φ => φ h ∧ (∃ o, h.get? a = some o) ∧ ∀ h1 h2 : Heap, φ h1 → (∀ o, h1.get? a = some o → h2.get? a = some o) → φ h2
def HOk (H : Hp) (h : Heap) : Prop := ∀ a o, H a = some o → ObjOk P w H h a o
end

section
variable {P : Program} {w : World} {H H' : Hp} {h h' : Heap} {a : Addr} {o : HO}
theorem ObjOk.lt (x : ObjOk P w H h a o) : a < h.objs.size := by
  cases o with
  | lst xs => obtain ⟨_, _, _, _, e⟩ := x; exact Heap.lt_size e
  | tup xs => obtain ⟨_, _, _, p⟩ := x; exact p.lt
  | dK kvs => obtain ⟨_, _, _, _, o, _, _, e, _⟩ := x; exact Heap.lt_size e
  | dT kvs => obtain ⟨_, _, _, _, o, _, _, e, _⟩ := x; exact Heap.lt_size e
  | set S n => obtain ⟨o, _, _, _, e, _⟩ := x; exact Heap.lt_size e
  | ins C dx fs => obtain ⟨_, _, _, e, _⟩ := x; exact Heap.lt_size e
  | own y => obtain ⟨_, e⟩ := x; exact Heap.lt_size e
  | xd fs => obtain ⟨_, ⟨_, _, _, e, _⟩, _⟩ := x; exact Heap.lt_size e
  | rng lo hi => obtain ⟨_, _, _, e⟩ := x; exact Heap.lt_size e
  | frz ob u => obtain ⟨e, _⟩ := x; exact Heap.lt_size e
  | tbl lp lq => obtain ⟨_, e, _⟩ := x; exact Heap.lt_size e
  | met f y => exact Heap.lt_size (show h.get? a = some _ from x)
  | ext φ => obtain ⟨_, ⟨_, e⟩, _⟩ := x; exact Heap.lt_size e
theorem Paired.mapP {α β : Type} {F G : α → β → Prop} : ∀ {l₁ : List α} {l₂ : List β}, Paired F l₁ l₂ → (∀ a b, F a b → G a b) → Paired G l₁ l₂
  | _, _, .nil, _ => .nil
  | _, _, .cons r t, f => .cons (f _ _ r) (Paired.mapP t f)
theorem ObjOk.stay (x : ObjOk P w H h a o) (k : ∀ b u, (b = a ∨ H b = some (.own a)) → h.get? b = some u → h'.get? b = some u)
    (ho : ∀ b, H b = some (.own a) → H' b = some (.own a)) (ht : ∀ b xs, H b = some (.tup xs) → H' b = some (.tup xs)) (hz : ∀ b ob u, H b = some (.frz ob u) → H' b = some (.frz ob u)) : ObjOk P w H' h' a o := by
  induction o with
  | lst xs => obtain ⟨z, its, n, r, e⟩ := x; exact ⟨z, its, n, r, k _ _ (.inl rfl) e⟩
  | tup xs => obtain ⟨z, its, r, ob, e, c⟩ := x; exact ⟨z, its, r, ob, k _ _ (.inl rfl) e, c⟩
  | dK kvs => obtain ⟨z, y, vs, r, ob, es, ep, e, c⟩ := x; exact ⟨z, y, vs, r, ob, es, ep, k _ _ (.inl rfl) e, c⟩
  | dT kvs =>
    obtain ⟨z, y, xs, r, ob, es, ep, e, c⟩ := x
    exact ⟨z, y, xs, Paired.mapP r fun p q z => ⟨z.1, ht _ _ z.2.1, z.2.2⟩, ob, es, ep, k _ _ (.inl rfl) e, c⟩
  | set S n => obtain ⟨ob, es, ep, t, e, c⟩ := x; exact ⟨ob, es, ep, t, k _ _ (.inl rfl) e, c⟩
  | ins C dx fs =>
    obtain ⟨d, z, ne, e, mA, ⟨od, es, ep, e2, c⟩, r⟩ := x
    exact ⟨ho _ d, z, ne, k _ _ (.inl rfl) e, mA, ⟨od, es, ep, k _ _ (.inr d) e2, c⟩, r⟩
  | own y => obtain ⟨ob, e⟩ := x; exact ⟨ob, k _ _ (.inl rfl) e⟩
  | xd fs => obtain ⟨mA, ⟨od, es, ep, e, c⟩, r⟩ := x; exact ⟨mA, ⟨od, es, ep, k _ _ (.inl rfl) e, c⟩, r⟩
  | rng lo hi => obtain ⟨t, u, v, e⟩ := x; exact ⟨t, u, v, k _ _ (.inl rfl) e⟩
  | frz ob u ih => obtain ⟨e, q⟩ := x; exact ⟨k _ _ (.inl rfl) e, ih q⟩
  | tbl lp lq =>
    obtain ⟨vs, e, tr, r⟩ := x
    exact ⟨vs, k a _ (.inl rfl) e, tr, r.imp id fun ⟨c, oc, us, t, e1, e2, e3⟩ => ⟨c, oc, us, t, e1, hz _ _ _ e2, e3⟩⟩
  | met f y =>
    have e : h.get? a = some (PySem.W.methodObj (.ref f) (.ref y)) := x
    show h'.get? a = some (PySem.W.methodObj (.ref f) (.ref y))
    exact k a _ (.inl rfl) e
  | ext φ => obtain ⟨p, ⟨o, e⟩, st⟩ := x; exact ⟨st _ _ p fun o q => k _ _ (.inl rfl) q, ⟨o, k _ _ (.inl rfl) e⟩, st⟩
theorem HOk.lt (x : HOk P w H h) (e : H a = some o) : a < h.objs.size := (x a o e).lt
theorem HOk.fresh (x : HOk P w H h) (e : h.objs.size ≤ a) : H a = none := by
  cases q : H a with
  | none => rfl
  | some u => exact absurd (Nat.lt_of_lt_of_le (x.lt q) e) (Nat.lt_irrefl _)
theorem HOk.kept (x : HOk P w H h) (k : ∀ b u, h.get? b = some u → h'.get? b = some u) : HOk P w H h' := fun a o e =>
  (x a o e).stay (fun b u _ q => k b u q) (fun _ q => q) (fun _ _ q => q) fun _ _ _ q => q
theorem HOk.laid (x : HOk P w H h) (k : ∀ b u, h.get? b = some u → h'.get? b = some u) (hp : h.objs.size ≤ a) (new : ObjOk P w (upd H a o) h' a o) : HOk P w (upd H a o) h' := fun b u e => by
  have hn := x.fresh hp
  by_cases hb : b = a
  · subst hb; rw [upd_same] at e; cases e; exact new
  · rw [upd_ne hb] at e
    exact (x b u e).stay (fun c v _ q => k c v q) (fun c q => by rw [upd_ne (ne_of_none q hn)]; exact q) (fun c xs q => by rw [upd_ne (ne_of_none q hn)]; exact q) fun c ob xs q => by rw [upd_ne (ne_of_none q hn)]; exact q
end

def Rd (H : Hp) (a : Addr) (u : HO) : Prop := H a = some u ∨ ∃ o, H a = some (.frz o u)
theorem Rd.ok {P : Program} {w : World} {H : Hp} {h : Heap} {a : Addr} {u : HO} (r : Rd H a u) (x : HOk P w H h) : ObjOk P w H h a u := by
  rcases r with r | ⟨o, r⟩
  · exact x a u r
  · obtain ⟨_, q⟩ := x a _ r
    exact q
def Mut : Option HO → Prop
  | some (.lst _) => True
  | some (.dK _) => True
  | some (.dT _) => True
  | some (.set _ _) => True
  | some (.ins _ _ _) => True
  | some (.ext _) => True
  | _ => False
section
variable {P : Program} {w : World} {H : Hp} {h h' : Heap} {x e : Addr} {o' : HO}
theorem HOk.write (ok : HOk P w H h) (mu : Mut (H x)) (he : e = x ∨ H e = some (.own x)) (k : ∀ b u, b ≠ e → h.get? b = some u → h'.get? b = some u) (heo : ∃ u, h'.get? e = some u)
    (new : ObjOk P w (upd H x o') h' x o') : HOk P w (upd H x o') h' := fun b u q => by
  have nown : ∀ c y, H c = some (.own y) → c ≠ x := fun c y r z => by subst z; rw [r] at mu; exact mu
  have ntup : ∀ c xs, H c = some (.tup xs) → c ≠ x := fun c xs r z => by subst z; rw [r] at mu; exact mu
  have nfrz : ∀ c ob xs, H c = some (.frz ob xs) → c ≠ x := fun c ob xs r z => by subst z; rw [r] at mu; exact mu
  by_cases hb : b = x
  · subst hb; rw [upd_same] at q; cases q; exact new
  · rw [upd_ne hb] at q
    by_cases hbe : b = e
    · have q' : H b = some (.own x) := by
        rcases he with z | z
        · exact absurd (hbe.trans z) hb
        · rw [hbe]; exact z
      rw [q] at q'; cases q'
      obtain ⟨v, hv⟩ := heo
      exact ⟨v, by rw [hbe]; exact hv⟩
    · refine (ok b u q).stay (fun c v hc r => k c v ?_ r) (fun c r => by rw [upd_ne (nown c b r)]; exact r) (fun c xs r => by rw [upd_ne (ntup c xs r)]; exact r) fun c ob xs r => by rw [upd_ne (nfrz c ob xs r)]; exact r
      rcases hc with rfl | hc
      · exact hbe
      · rintro rfl
        rcases he with z | z
        · exact nown c b hc z
        · rw [hc] at z; cases z; exact hb rfl
end

/-! ### kept unless tracked; of the frames at fs (the callers') the slots may change (an exception that passes writes there); of the records at ex (iterators) nothing is said -/
structure Un (fs ex : List Addr) (H H' : Hp) (h h' : Heap) : Prop where
  keep : ∀ b o, h.get? b = some o → H b = none → b ∉ fs → b ∉ ex → h'.get? b = some o
  slot : ∀ b o, h.get? b = some o → H b = none → b ∈ fs → b ∉ ex → ∃ sl, h'.get? b = some { o with slots := sl }
  free : ∀ b o, h.get? b = some o → H b = none → b ∉ ex → H' b = none
  there : ∀ b o, h.get? b = some o → b ∉ ex → ∃ o', h'.get? b = some o'
  tups : ∀ b xs, H b = some (.tup xs) → H' b = some (.tup xs)
  frzs : ∀ b o u, H b = some (.frz o u) → H' b = some (.frz o u)
  tbls : ∀ b lp lq, H b = some (.tbl lp lq) → H' b = some (.tbl lp lq)
section
variable {fs fs' ex ex' : List Addr} {H H1 H2 : Hp} {h h1 h2 h' : Heap} {a x e : Addr} {o : HO}
theorem Un.any (u : Un fs ex H H1 h h1) {b : Addr} {ob : Obj} (q : h.get? b = some ob) (n : H b = none) (hx : b ∉ ex) : ∃ sl, h1.get? b = some { ob with slots := sl } := by
  by_cases hb : b ∈ fs
  · exact u.slot b ob q n hb hx
  · exact ⟨ob.slots, u.keep b ob q n hb hx⟩
theorem Un.kept (k : ∀ b u, h.get? b = some u → h'.get? b = some u) : Un fs ex H H h h' :=
  ⟨fun b ob q _ _ _ => k b ob q, fun b ob q _ _ _ => ⟨ob.slots, k b ob q⟩, fun _ _ _ n _ => n, fun b ob q _ => ⟨ob, k b ob q⟩, fun _ _ q => q, fun _ _ _ q => q, fun _ _ _ q => q⟩
theorem Un.refl : Un fs ex H H h h := Un.kept fun _ _ q => q
theorem Un.laid (k : ∀ b u, h.get? b = some u → h'.get? b = some u) (hp : h.objs.size ≤ a) (hn : H a = none) : Un fs ex H (upd H a o) h h' where
  keep := fun b u q _ _ _ => k b u q
  slot := fun b u q _ _ _ => ⟨u.slots, k b u q⟩
  free := fun b u q n _ => by rw [upd_ne (Nat.ne_of_lt (Nat.lt_of_lt_of_le (Heap.lt_size q) hp))]; exact n
  there := fun b u q _ => ⟨u, k b u q⟩
  tups := fun b xs q => by rw [upd_ne (ne_of_none q hn)]; exact q
  frzs := fun b u xs q => by rw [upd_ne (ne_of_none q hn)]; exact q
  tbls := fun b lp lq q => by rw [upd_ne (ne_of_none q hn)]; exact q
theorem Un.write (mu : Mut (H x)) (he : e = x ∨ H e = some (.own x)) (k : ∀ b u, b ≠ e → h.get? b = some u → h'.get? b = some u) (heo : ∃ u, h'.get? e = some u) : Un fs ex H (upd H x o) h h' := by
  have hx : ∀ b, H b = none → b ≠ x := fun b n z => by subst z; rw [n] at mu; exact mu
  have hb : ∀ b, H b = none → b ≠ e := fun b n z => by
    subst z
    rcases he with r | r
    · exact hx b n r
    · rw [n] at r; cases r
  have hm : ∀ b u, H b = some u → ¬ Mut (some u) → b ≠ x := fun b u q nm z => by subst z; rw [q] at mu; exact nm mu
  refine ⟨fun b u q n _ _ => k b u (hb b n) q, fun b u q n _ _ => ⟨u.slots, k b u (hb b n) q⟩, fun b u q n _ => by rw [upd_ne (hx b n)]; exact n, fun b u q _ => ?_,
    fun b xs q => by rw [upd_ne (hm b _ q fun z => z)]; exact q, fun b u xs q => by rw [upd_ne (hm b _ q fun z => z)]; exact q, fun b lp lq q => by rw [upd_ne (hm b _ q fun z => z)]; exact q⟩
  by_cases hbe : b = e
  · subst hbe; exact heo
  · exact ⟨u, k b u hbe q⟩
end

/-! ### the heap without what is tracked -/
def trk (h : Heap) (H : Hp) : List Addr := (List.range h.objs.size).filter fun a => (H a).isSome
def hidT (h : Heap) (H : Hp) : Heap := PySem.W.hideAll h (trk h H)
theorem hidT_size (h : Heap) (H : Hp) : (hidT h H).objs.size = h.objs.size := PySem.W.hideAll_size _ _
theorem hidT_get {h : Heap} {H : Hp} {b : Addr} {o : Obj} (e : h.get? b = some o) (n : H b = none) : (hidT h H).get? b = some o :=
  PySem.W.hideAll_get _ e fun hm => by
    have q : (H b).isSome = true := (List.mem_filter.mp hm).2
    rw [n] at q; simp at q
theorem of_hidT {h : Heap} {H : Hp} {b : Addr} {o : Obj} (e : (hidT h H).get? b = some o) : h.get? b = some o ∧ H b = none := by
  have e' : h.get? b = some o := PySem.W.of_hideAll (trk h H) e
  refine ⟨e', ?_⟩
  cases q : H b with
  | none => rfl
  | some x =>
    have hm : b ∈ trk h H := List.mem_filter.mpr ⟨List.mem_range.mpr (Heap.lt_size e'), by simp [q]⟩
    have z : (hidT h H).get? b = none := PySem.W.hideAll_none (trk h H) hm
    rw [z] at e; cases e

/-! ### OpenK's ledger, filled with every new object but one -/
def allNews (g h : Heap) (L : Addr) : List (Addr × Obj) := (List.range h.objs.size).filterMap fun a => if a = L ∨ (g.get? a).isSome = true then none else (h.get? a).map fun o => (a, o)
def rest (g h : Heap) (L d : Addr) : List (Addr × Obj) := (allNews g h L).filter fun p => decide (p.1 ≠ d)
end L2

namespace L2
open PySem PySem.Spec PyProof.Rows

structure Mod (K : PySem.W.Frag) (mg : Str → Option Value) (base : Heap) : Prop where
  kin : K.In base
  glob : base.Ns mainGlobals mg
  blt : ∃ mb, base.Ns builtinsNs mb ∧ ∀ x : Str, x ≠ "__name__" → mb x = bootBuiltins x
  nolimit : base.NoLimit

structure Cx where
  prog : Program
  w : World
  K : PySem.W.Frag
  mg : Str → Option Value
  base : Heap
  A : Around
  N : List Str
  s₀ : Shared
  H₀ : Hp
  env : Env
  outer : List Env
  stack : List Env
  ex : List Addr
  fn : Str → Bool
  calm : Bool
  pn : List (Addr × Obj)
  xe : Value → Shared → Prop
def frs (l : List Env) : List Addr := l.filterMap (·.frame)
abbrev Cx.fs (X : Cx) : List Addr := frs X.outer

def Vis (sc : Scope) (x : Str) : Prop := sc.names.lookup x = some .local ∨ sc.names.lookup x = some .cell ∨ sc.names.lookup x = some .free
def Loc (sc : Scope) (x : Str) : Prop := sc.names.lookup x = some .local ∨ sc.names.lookup x = some .cell
def Look (env : Env) (h : Heap) (m : Str → Option Value) (x : Str) (u : Value) : Prop :=
  (env.kindOf x = some .local ∧ m x = some u) ∨ ((env.kindOf x = some .cell ∨ env.kindOf x = some .free) ∧ ∃ c, env.cells.lookup x = some c ∧ h.IsCell c (some u))

structure Cx.Ok (X : Cx) : Prop where
  mod : Mod X.K X.mg X.base
  kind : X.env.scope.kind = .function
  glob : X.env.globals = mainGlobals
  blt : X.env.builtins = builtinsNs
  above : X.s₀.heap.objs.size ≤ X.env.locals
  inj : ∀ x y c, X.env.cells.lookup x = some c → X.env.cells.lookup y = some c → x = y
  has : ∀ x, (X.env.kindOf x = some .cell ∨ X.env.kindOf x = some .free) → ∃ c, X.env.cells.lookup x = some c
  cab : ∀ x c, X.fn x = true → X.env.cells.lookup x = some c → X.s₀.heap.objs.size ≤ c
  hd : X.calm = true → X.A.handled = none
  frames : X.A.frames = some X.stack
  stk : X.stack = X.outer ∨ (X.stack = X.env :: X.outer ∧ X.env.frame = some X.env.locals)
  exf : ∀ b ∈ X.ex, b ≠ X.env.locals ∧ ∀ x c, X.env.cells.lookup x = some c → c ≠ b
  bs : ∀ b o, X.base.get? b = some o → X.s₀.heap.get? b = some o ∧ X.H₀ b = none
  bsz : X.base.objs.size ≤ X.s₀.heap.objs.size
  noex : ∀ b o, X.base.get? b = some o → b ∉ X.ex
  exfs : ∀ b ∈ X.ex, b ∉ X.fs
  funs : X.s₀.heap.FunFrames X.base X.outer
  frf : ∀ b ∈ X.fs, X.H₀ b = none

structure Inv (X : Cx) (pins : List (Addr × Obj)) (σ : List (Option V)) (H : Hp) (s : Shared) : Prop where
  ok : X.Ok
  os : s.os = X.s₀.os
  bare : AllBare s.gens
  base : Un X.fs X.ex X.H₀ H X.s₀.heap s.heap
  loc : ∃ m, s.heap.Ns X.env.locals m ∧ ∀ (i : Nat) (x : Str) (v : V), X.N[i]? = some x → σ[i]? = some (some v) → Vis X.env.scope x → ∃ u, RelV v u ∧ Look X.env s.heap m x u
  cell : ∀ x c, X.env.cells.lookup x = some c → ∃ v, s.heap.IsCell c v
  free : H X.env.locals = none
  freeC : ∀ x c, X.env.cells.lookup x = some c → H c = none
  pin : ∀ p ∈ X.pn ++ pins, s.heap.get? p.1 = some p.2 ∧ H p.1 = none ∧ p.1 ≠ X.env.locals ∧ p.1 ∉ X.fs ∧ ∀ v, p.2.data ≠ .cell v
  hok : HOk X.prog X.w H s.heap
  len : σ.length = X.N.length

section
variable {X : Cx} {pins : List (Addr × Obj)} {σ : List (Option V)} {H H' : Hp} {s : Shared} {h' : Heap}

theorem Cx.Ok.nofr (ok : X.Ok) {b : Addr} {o : Obj} (e : X.base.get? b = some o) : b ∉ X.fs := fun hb => by
  have := (ok.funs.mem hb).1
  rw [e] at this; cases this
theorem Inv.bs (I : Inv X pins σ H s) : ∀ b o, X.base.get? b = some o → s.heap.get? b = some o ∧ H b = none := fun b o e =>
  ⟨I.base.keep b o (I.ok.bs b o e).1 (I.ok.bs b o e).2 (I.ok.nofr e) (I.ok.noex b o e), I.base.free b o (I.ok.bs b o e).1 (I.ok.bs b o e).2 (I.ok.noex b o e)⟩
theorem Inv.bk (I : Inv X pins σ H s) : ∀ b o, X.base.get? b = some o → s.heap.get? b = some o := fun b o e => (I.bs b o e).1
theorem Inv.mod (I : Inv X pins σ H s) : Mod X.K X.mg X.base := I.ok.mod
theorem Inv.kIn (I : Inv X pins σ H s) : X.K.In s.heap := I.ok.mod.kin.keeps I.bk
theorem Inv.nolimit (I : Inv X pins σ H s) : s.heap.NoLimit := I.ok.mod.nolimit.keeps I.bk
theorem Inv.lt (I : Inv X pins σ H s) : X.env.locals < s.heap.objs.size := let ⟨_, hn, _⟩ := I.loc; hn.lt
theorem Inv.sz (I : Inv X pins σ H s) : X.s₀.heap.objs.size ≤ s.heap.objs.size := Nat.le_trans I.ok.above (Nat.le_of_lt I.lt)
theorem Inv.nofs (I : Inv X pins σ H s) {a : Addr} (h : s.heap.objs.size ≤ a) : a ∉ X.fs := fun hb => by
  obtain ⟨_, o, ho, _⟩ := I.ok.funs.mem hb
  exact absurd (Nat.lt_of_lt_of_le (Heap.lt_size ho) (Nat.le_trans I.sz h)) (Nat.lt_irrefl _)
theorem Inv.cne (I : Inv X pins σ H s) : ∀ x c, X.env.cells.lookup x = some c → c ≠ X.env.locals := fun x c e z => by
  obtain ⟨v, o, ho, hd⟩ := I.cell x c e
  obtain ⟨m, ⟨o', es, ep, ho', hd', _⟩, _⟩ := I.loc
  rw [z, ho'] at ho; cases ho; rw [hd'] at hd; cases hd
theorem Inv.funs (I : Inv X pins σ H s) : s.heap.FunFrames X.base X.outer := by
  have all : ∀ (l : List Env), (∀ b ∈ frs l, b ∈ X.fs) → X.s₀.heap.FunFrames X.base l → s.heap.FunFrames X.base l := by
    intro l
    induction l with
    | nil => intro _ _; trivial
    | cons env r ih =>
      intro hs hl
      obtain ⟨hk, ⟨L, o, hf, hn, ho, hd⟩, hr⟩ := hl
      have hL : L ∈ X.fs := hs L (by unfold frs; rw [List.filterMap_cons, hf]; exact List.mem_cons_self)
      obtain ⟨sl, e⟩ := I.base.slot L o ho (I.ok.frf L hL) hL fun z => I.ok.exfs L z hL
      exact ⟨hk, ⟨L, _, hf, hn, e, hd⟩, ih (fun b hb => hs b (by unfold frs; rw [List.filterMap_cons, hf]; exact List.mem_cons_of_mem _ hb)) hr⟩
  exact all X.outer (fun _ hb => hb) I.ok.funs

theorem Inv.stack (I : Inv X pins σ H s) : s.heap.FunFrames X.base X.stack := by
  rcases I.ok.stk with e | ⟨e, hf⟩
  · rw [e]; exact I.funs
  · rw [e]
    obtain ⟨m, hn, _⟩ := I.loc
    refine .cons (by rw [I.ok.kind]; decide) hf hn ?_ I.funs
    exact Heap.get?_none_of_le (Nat.le_trans I.ok.bsz I.ok.above)
theorem Inv.stkSub (I : Inv X pins σ H s) : ∀ b ∈ frs X.stack, b ∈ X.env.locals :: X.fs := fun b hb => by
  rcases I.ok.stk with e | ⟨e, hf⟩
  · rw [e] at hb; exact List.mem_cons_of_mem _ hb
  · rw [e] at hb
    unfold frs at hb
    rw [List.filterMap_cons, hf] at hb
    exact hb
theorem Inv.stkFree (I : Inv X pins σ H s) : ∀ b ∈ frs X.stack, H b = none := fun b hb => by
  rcases List.mem_cons.mp (I.stkSub b hb) with e | hb
  · rw [e]; exact I.free
  · obtain ⟨_, o, ho, _⟩ := I.ok.funs.mem hb
    exact I.base.free b o ho (I.ok.frf b hb) fun z => I.ok.exfs b z hb

theorem Inv.step {g' : Array GenState} {t' : Nat} {d' : Drawn} {ch : List Addr} (I : Inv X pins σ H s)
    (hch : ∀ b ∈ ch, (b ∈ X.ex ∨ X.s₀.heap.objs.size ≤ b) ∧ b ≠ X.env.locals ∧ (∀ x c, X.env.cells.lookup x = some c → c ≠ b) ∧ ∀ p ∈ X.pn ++ pins, p.1 ≠ b)
    (keep : ∀ b o, b ≠ X.env.locals → b ∉ X.fs → b ∉ ch → s.heap.get? b = some o → H b = none → h'.get? b = some o)
    (slot : ∀ b o, b ≠ X.env.locals → b ∈ X.fs → b ∉ ch → s.heap.get? b = some o → H b = none → ∃ sl, h'.get? b = some { o with slots := sl }) (free : ∀ b o, b ∉ ch → s.heap.get? b = some o → H b = none → H' b = none)
    (there : ∀ b o, b ∉ ch → s.heap.get? b = some o → ∃ o', h'.get? b = some o')
    (tups : ∀ b xs, H b = some (.tup xs) → H' b = some (.tup xs)) (frzs : ∀ b o u, H b = some (.frz o u) → H' b = some (.frz o u)) (tbls : ∀ b lp lq, H b = some (.tbl lp lq) → H' b = some (.tbl lp lq))
    (ns : ∀ m, s.heap.Ns X.env.locals m → h'.Ns X.env.locals m) (hok : HOk X.prog X.w H' h') (hg : AllBare g') :
    Inv X pins σ H' { s with heap := h', gens := g', drawn := d', toks := t' } := by
  have neL : ∀ b o, X.s₀.heap.get? b = some o → b ≠ X.env.locals := fun b o e => Nat.ne_of_lt (Nat.lt_of_lt_of_le (Heap.lt_size e) I.ok.above)
  have neC : ∀ b o, X.s₀.heap.get? b = some o → b ∉ X.ex → b ∉ ch := fun b o e hx hb => by
    rcases (hch b hb).1 with z | z
    · exact hx z
    · exact absurd (Nat.lt_of_lt_of_le (Heap.lt_size e) z) (Nat.lt_irrefl _)
  have cellK : ∀ x c, X.env.cells.lookup x = some c → ∀ v, s.heap.IsCell c v → h'.IsCell c v := fun x c e v ⟨o, ho, hd⟩ => by
    have nch : c ∉ ch := fun z => (hch c z).2.2.1 x c e rfl
    by_cases hc : c ∈ X.fs
    · obtain ⟨sl, q⟩ := slot c o (I.cne x c e) hc nch ho (I.freeC x c e)
      exact ⟨_, q, hd⟩
    · exact ⟨o, keep c o (I.cne x c e) hc nch ho (I.freeC x c e), hd⟩
  refine ⟨I.ok, I.os, hg, ⟨fun b o e n hb hx => ?_, fun b o e n hb hx => ?_, fun b o e n hx => ?_, fun b o e hx => ?_, fun b xs e => tups b xs (I.base.tups b xs e), fun b o xs e => frzs b o xs (I.base.frzs b o xs e), fun b lp lq e => tbls b lp lq (I.base.tbls b lp lq e)⟩, ?_, fun x c e => ?_, ?_, fun x c e => ?_, fun p hp => ?_, hok, I.len⟩
  · exact keep b o (neL b o e) hb (neC b o e hx) (I.base.keep b o e n hb hx) (I.base.free b o e n hx)
  · obtain ⟨sl, e1⟩ := I.base.slot b o e n hb hx
    obtain ⟨sl', e2⟩ := slot b _ (neL b o e) hb (neC b o e hx) e1 (I.base.free b o e n hx)
    exact ⟨sl', e2⟩
  · obtain ⟨o', e1⟩ := I.base.there b o e hx
    exact free b o' (neC b o e hx) e1 (I.base.free b o e n hx)
  · obtain ⟨o', e1⟩ := I.base.there b o e hx
    exact there b o' (neC b o e hx) e1
  · obtain ⟨m, hn, hl⟩ := I.loc
    refine ⟨m, ns m hn, fun i x v e1 e2 e3 => ?_⟩
    obtain ⟨u, r, l⟩ := hl i x v e1 e2 e3
    refine ⟨u, r, ?_⟩
    rcases l with l | ⟨k, c, e, z⟩
    · exact .inl l
    · exact .inr ⟨k, c, e, cellK x c e _ z⟩
  · obtain ⟨v, z⟩ := I.cell x c e
    exact ⟨v, cellK x c e v z⟩
  · obtain ⟨m, ⟨o, _, _, ho, _⟩, _⟩ := I.loc
    exact free _ o (fun z => (hch _ z).2.1 rfl) ho I.free
  · obtain ⟨v, o, ho, hd⟩ := I.cell x c e
    exact free c o (fun z => (hch c z).2.2.1 x c e rfl) ho (I.freeC x c e)
  · obtain ⟨e, n, ne, nf, d⟩ := I.pin p hp
    have nch : p.1 ∉ ch := fun z => (hch p.1 z).2.2.2 p hp rfl
    exact ⟨keep p.1 p.2 ne nf nch e n, free p.1 p.2 nch e n, ne, nf, d⟩
theorem Inv.un {t' : Nat} (I : Inv X pins σ H s) (u : Un X.fs [] H H' s.heap h') (hok : HOk X.prog X.w H' h') : Inv X pins σ H' { s with heap := h', toks := t' } := by
  obtain ⟨m, ⟨o, es, ep, ho, r⟩, _⟩ := id I.loc
  obtain ⟨sl, hL⟩ := u.any ho I.free (by simp)
  exact I.step (g' := s.gens) (d' := s.drawn) (ch := []) (fun _ z => nomatch z) (fun b o _ hb _ e n => u.keep b o e n hb (by simp)) (fun b o _ hb _ e n => u.slot b o e n hb (by simp)) (fun b o _ e n => u.free b o e n (by simp)) (fun b o _ e => u.there b o e (by simp)) u.tups u.frzs u.tbls (fun m' hm => by
    obtain ⟨o', es', ep', ho', r'⟩ := hm
    rw [ho] at ho'; cases ho'
    exact ⟨_, es', ep', hL, r'⟩) hok I.bare
theorem Inv.call {g' : Array GenState} {t' : Nat} {d' : Drawn} {ch : List Addr} (I : Inv X pins σ H s) (u : Un (frs X.stack) ch H H' s.heap h') (hok : HOk X.prog X.w H' h') (hg : AllBare g')
    (hch : ∀ b ∈ ch, (b ∈ X.ex ∨ X.s₀.heap.objs.size ≤ b) ∧ b ≠ X.env.locals ∧ (∀ x c, X.env.cells.lookup x = some c → c ≠ b) ∧ ∀ p ∈ X.pn ++ pins, p.1 ≠ b) :
    Inv X pins σ H' { s with heap := h', gens := g', drawn := d', toks := t' } := by
  obtain ⟨m, ⟨o, es, ep, ho, r⟩, _⟩ := id I.loc
  obtain ⟨sl, hL⟩ := u.any ho I.free fun z => (hch _ z).2.1 rfl
  exact I.step (ch := ch) hch (fun b o hL hb hc e n => u.keep b o e n (fun z => (List.mem_cons.mp (I.stkSub b z)).elim hL hb) hc) (fun b o _ _ hc e n => u.any e n hc) (fun b o hc e n => u.free b o e n hc) (fun b o hc e => u.there b o e hc) u.tups u.frzs u.tbls (fun m' hm => by
    obtain ⟨o', es', ep', ho', r'⟩ := hm
    rw [ho] at ho'; cases ho'
    exact ⟨_, es', ep', hL, r'⟩) hok hg
theorem Inv.turned {t' : Nat} {it : Addr} (I : Inv X pins σ H s) (k : ∀ b o, b ≠ it → s.heap.get? b = some o → h'.get? b = some o) (hn : H it = none) (hL : it ≠ X.env.locals)
    (h1 : it ∈ X.ex ∨ X.s₀.heap.objs.size ≤ it) (h2 : ∀ x c, X.env.cells.lookup x = some c → c ≠ it) (h3 : ∀ p ∈ X.pn ++ pins, p.1 ≠ it) : Inv X pins σ H { s with heap := h', toks := t' } := by
  have nit : ∀ b u, H b = some u → b ≠ it := fun b u e z => by rw [z, hn] at e; cases e
  refine I.step (g' := s.gens) (d' := s.drawn) (ch := [it]) (fun b hb => ?_) (fun b o _ _ hc e _ => k b o (fun z => hc (by simp [z])) e) (fun b o _ _ hc e _ => ⟨o.slots, k b o (fun z => hc (by simp [z])) e⟩) (fun _ _ _ _ n => n)
    (fun b o hc e => ⟨o, k b o (fun z => hc (by simp [z])) e⟩) (fun _ _ e => e) (fun _ _ _ e => e) (fun _ _ _ e => e) (fun m hm => ?_) (fun b u e => ?_) I.bare
  · have e : b = it := by simpa using hb
    subst e
    exact ⟨h1, hL, h2, h3⟩
  · obtain ⟨o, es, ep, ho, r⟩ := hm
    exact ⟨o, es, ep, k _ o (Ne.symm hL) ho, r⟩
  · refine (I.hok b u e).stay (fun c v hc q => k c v ?_ q) (fun _ q => q) (fun _ _ q => q) fun _ _ _ q => q
    rcases hc with z | z
    · rw [z]; exact nit b u e
    · exact nit c _ z
theorem Inv.tok (I : Inv X pins σ H s) (t : Nat) : Inv X pins σ H { s with toks := t } := I.un (h' := s.heap) (t' := t) Un.refl I.hok
theorem Inv.kept {t' : Nat} (I : Inv X pins σ H s) (k : ∀ b u, s.heap.get? b = some u → h'.get? b = some u) : Inv X pins σ H { s with heap := h', toks := t' } := I.un (Un.kept k) (I.hok.kept k)
theorem Inv.laid {a : Addr} {o : HO} {t' : Nat} (I : Inv X pins σ H s) (k : ∀ b u, s.heap.get? b = some u → h'.get? b = some u) (hp : s.heap.objs.size ≤ a) (new : ObjOk X.prog X.w (upd H a o) h' a o) :
    Inv X pins σ (upd H a o) { s with heap := h', toks := t' } := I.un (Un.laid k hp (I.hok.fresh hp)) (I.hok.laid k hp new)
theorem Inv.write {x e : Addr} {o : HO} {t' : Nat} (I : Inv X pins σ H s) (mu : Mut (H x)) (he : e = x ∨ H e = some (.own x)) (k : ∀ b u, b ≠ e → s.heap.get? b = some u → h'.get? b = some u) (heo : ∃ u, h'.get? e = some u)
    (new : ObjOk X.prog X.w (upd H x o) h' x o) : Inv X pins σ (upd H x o) { s with heap := h', toks := t' } := I.un (Un.write mu he k heo) (I.hok.write mu he k heo new)
theorem Inv.pins_of {pins' : List (Addr × Obj)} (I : Inv X pins σ H s) (h : ∀ p ∈ pins', s.heap.get? p.1 = some p.2 ∧ H p.1 = none ∧ p.1 ≠ X.env.locals ∧ p.1 ∉ X.fs ∧ ∀ v, p.2.data ≠ .cell v) : Inv X pins' σ H s :=
  ⟨I.ok, I.os, I.bare, I.base, I.loc, I.cell, I.free, I.freeC, fun p hp => (List.mem_append.mp hp).elim (fun z => I.pin p (List.mem_append_left _ z)) (h p), I.hok, I.len⟩

theorem nodup_ix {N : List Str} (hN : N.Nodup) {i j : Nat} {x : Str} (a : N[i]? = some x) (b : N[j]? = some x) : i = j := by
  obtain ⟨h1, e1⟩ := List.getElem?_eq_some_iff.mp a
  obtain ⟨h2, e2⟩ := List.getElem?_eq_some_iff.mp b
  exact (List.getElem_inj hN).mp (e1.trans e2.symm)

theorem store_ok2 {M : Model} {A : Around} {E : Value → Shared → Prop} {i : Nat} {x : Str} {v : V} {u : Value} {Q : Unit → Shared → Prop} (I : Inv X pins σ H s) (hN : X.N.Nodup) (hi : X.N[i]? = some x) (hx : Loc X.env.scope x) (r : RelV v u)
    (h : ∀ s', Inv X pins (σ.set i (some v)) H s' → (∃ a, Heap.SameBut a s.heap s'.heap ∧ (a = X.env.locals ∨ X.env.cells.lookup x = some a)) → Q () s') (hf : X.fn x = true ∨ X.env.scope.names.lookup x = some .local := by first | exact .inl rfl | exact .inr rfl | assumption) : wpAny M A (storeName X.env x u) Q E s := by
  obtain ⟨m, hn, hl⟩ := id I.loc
  have hcls : (X.env.scope.kind == .class || (X.env.scope.kind == .module && X.env.locals != X.env.globals)) = false := by rw [I.ok.kind]; rfl
  have hiσ : i < σ.length := by rw [I.len]; exact (List.getElem?_eq_some_iff.mp hi).1
  have cne := I.cne
  have tracked : ∀ {a : Addr} {h' : Heap}, (∃ o, s.heap.get? a = some o ∧ H a = none) → Heap.SameBut a s.heap h' → HOk X.prog X.w H h' := fun {a h'} ha hs b ob e => by
    obtain ⟨_, _, hfree⟩ := ha
    refine (I.hok b ob e).stay (fun c w' hc q => (hs.2 c ?_).trans q) (fun _ q => q) (fun _ _ q => q) fun _ _ _ q => q
    rintro rfl
    rcases hc with rfl | hc
    · rw [hfree] at e; cases e
    · rw [hfree] at hc; cases hc
  rcases hx with hk | hk
  · refine wpAny_storeName_local hk hn (fun h' hn' hs => ?_) hcls
    obtain ⟨oL, _, _, hoL, _⟩ := id hn
    refine h _ ⟨I.ok, I.os, I.bare, ⟨fun b o e n hb hx => ?_, fun b o e n hb hx => ?_, I.base.free, fun b o e hx => ?_, I.base.tups, I.base.frzs, I.base.tbls⟩, ⟨_, hn', fun j y v' e1 e2 e3 => ?_⟩, fun y c e => ?_, I.free, I.freeC, fun p hp => ?_, tracked ⟨oL, hoL, I.free⟩ hs, by simpa using I.len⟩ ⟨_, hs, .inl rfl⟩
    · exact (hs.2 b (Nat.ne_of_lt (Nat.lt_of_lt_of_le (Heap.lt_size e) I.ok.above))).trans (I.base.keep b o e n hb hx)
    · obtain ⟨sl, e1⟩ := I.base.slot b o e n hb hx
      exact ⟨sl, (hs.2 b (Nat.ne_of_lt (Nat.lt_of_lt_of_le (Heap.lt_size e) I.ok.above))).trans e1⟩
    · obtain ⟨o', e1⟩ := I.base.there b o e hx
      exact ⟨o', (hs.2 b (Nat.ne_of_lt (Nat.lt_of_lt_of_le (Heap.lt_size e) I.ok.above))).trans e1⟩
    · by_cases hj : j = i
      · subst hj
        rw [hi] at e1; cases e1
        rw [List.getElem?_set_self hiσ] at e2
        cases e2
        exact ⟨u, r, .inl ⟨hk, by simp⟩⟩
      · rw [List.getElem?_set_ne (Ne.symm hj)] at e2
        obtain ⟨u', r', q⟩ := hl j y v' e1 e2 e3
        refine ⟨u', r', ?_⟩
        rcases q with ⟨k, e⟩ | ⟨k, c, e, z⟩
        · refine .inl ⟨k, ?_⟩
          have : y ≠ x := fun e => hj (nodup_ix hN e1 (e ▸ hi))
          simp [this, e]
        · exact .inr ⟨k, c, e, z.sameBut hs (cne y c e)⟩
    · obtain ⟨w', z⟩ := I.cell y c e
      exact ⟨w', z.sameBut hs (cne y c e)⟩
    · obtain ⟨e, n, ne, nf, d⟩ := I.pin p hp
      exact ⟨(hs.2 p.1 ne).trans e, n, ne, nf, d⟩
  · have hfn : X.fn x = true := by
      rcases hf with z | z
      · exact z
      · rw [z] at hk; cases hk
    obtain ⟨c, hc⟩ := I.ok.has x (.inl hk)
    obtain ⟨w', z⟩ := I.cell x c hc
    refine wpAny_storeName_cell I.ok.kind hk hc z (fun h' hc' hs => ?_)
    obtain ⟨oc, hoc, hocd⟩ := id z
    refine h { s with heap := h' } ⟨I.ok, I.os, I.bare, ⟨fun b o e n hb hx => ?_, fun b o e n hb hx => ?_, I.base.free, fun b o e hx => ?_, I.base.tups, I.base.frzs, I.base.tbls⟩, ⟨m, hn.sameBut hs (Ne.symm (cne x c hc)), fun j y v' e1 e2 e3 => ?_⟩, fun y c' e => ?_, I.free, I.freeC, fun p hp => ?_, tracked ⟨oc, hoc, I.freeC x c hc⟩ hs, by simpa using I.len⟩ ⟨c, hs, .inr hc⟩
    · exact (hs.2 b (Nat.ne_of_lt (Nat.lt_of_lt_of_le (Heap.lt_size e) (I.ok.cab x c hfn hc)))).trans (I.base.keep b o e n hb hx)
    · obtain ⟨sl, e1⟩ := I.base.slot b o e n hb hx
      exact ⟨sl, (hs.2 b (Nat.ne_of_lt (Nat.lt_of_lt_of_le (Heap.lt_size e) (I.ok.cab x c hfn hc)))).trans e1⟩
    · obtain ⟨o', e1⟩ := I.base.there b o e hx
      exact ⟨o', (hs.2 b (Nat.ne_of_lt (Nat.lt_of_lt_of_le (Heap.lt_size e) (I.ok.cab x c hfn hc)))).trans e1⟩
    · by_cases hj : j = i
      · subst hj
        rw [hi] at e1; cases e1
        rw [List.getElem?_set_self hiσ] at e2
        cases e2
        exact ⟨u, r, .inr ⟨.inl hk, c, hc, hc'⟩⟩
      · rw [List.getElem?_set_ne (Ne.symm hj)] at e2
        obtain ⟨u', r', q⟩ := hl j y v' e1 e2 e3
        refine ⟨u', r', ?_⟩
        rcases q with q | ⟨k, c', e, z'⟩
        · exact .inl q
        · refine .inr ⟨k, c', e, z'.sameBut hs ?_⟩
          rintro rfl
          exact hj (nodup_ix hN e1 (I.ok.inj _ _ _ e hc ▸ hi))
    · by_cases hcc : c' = c
      · subst hcc; exact ⟨_, hc'⟩
      · obtain ⟨w2, z2⟩ := I.cell y c' e
        exact ⟨w2, z2.sameBut hs hcc⟩
    · obtain ⟨e, n, ne, nf, d⟩ := I.pin p hp
      refine ⟨(hs.2 p.1 ?_).trans e, n, ne, nf, d⟩
      intro q
      rw [q, hoc] at e
      have q' : oc = p.2 := Option.some.inj e
      exact d w' (by rw [← q']; exact hocd)
theorem store_ok {M : Model} {A : Around} {E : Value → Shared → Prop} {i : Nat} {x : Str} {v : V} {u : Value} {Q : Unit → Shared → Prop} (I : Inv X pins σ H s) (hN : X.N.Nodup) (hi : X.N[i]? = some x) (hx : Loc X.env.scope x) (r : RelV v u)
    (h : ∀ s', Inv X pins (σ.set i (some v)) H s' → Q () s') (hf : X.fn x = true ∨ X.env.scope.names.lookup x = some .local := by first | exact .inl rfl | exact .inr rfl | assumption) : wpAny M A (storeName X.env x u) Q E s :=
  store_ok2 I hN hi hx r (fun s' I' _ => h s' I') hf
theorem Inv.call' {s' : Shared} {ch : List Addr} (I : Inv X pins σ H s) (ho : s'.os = s.os) (u : Un (frs X.stack) ch H H' s.heap s'.heap) (hok : HOk X.prog X.w H' s'.heap) (hg : AllBare s'.gens)
    (hch : ∀ b ∈ ch, (b ∈ X.ex ∨ X.s₀.heap.objs.size ≤ b) ∧ b ≠ X.env.locals ∧ (∀ x c, X.env.cells.lookup x = some c → c ≠ b) ∧ ∀ p ∈ X.pn ++ pins, p.1 ≠ b) : Inv X pins σ H' s' := by
  obtain ⟨h', g', d', t', o'⟩ := s'
  have e : o' = s.os := ho
  subst e
  exact I.call (g' := g') (t' := t') (d' := d') u hok hg hch
end

/-! ### the judgements -/
abbrev XK := Value → Option Addr → Hp → Prop
abbrev St := List (Option V)
abbrev VK := V → Hp → Prop
abbrev TE := St → Hp → VK → Prop
abbrev TT := St → Hp → (Bool → Hp → Prop) → Prop
abbrev TA := St → Hp → (List V → Hp → Prop) → Prop
structure Ends where
  nx : St → Hp → Prop
  rt : VK
  bk : St → Hp → Prop := fun _ _ => False
  ct : St → Hp → Prop := fun _ _ => False
abbrev TS := Ends → St → Hp → Prop

def EP (X : Cx) (pins : List (Addr × Obj)) (σ : St) (Q : VK) (u : Value) (s' : Shared) : Prop := ∃ v H', Inv X pins σ H' s' ∧ RelV v u ∧ Q v H'
def TP (X : Cx) (pins : List (Addr × Obj)) (σ : St) (Q : Bool → Hp → Prop) (b : Bool) (s' : Shared) : Prop := ∃ H', Inv X pins σ H' s' ∧ Q b H'
def AP (X : Cx) (pins : List (Addr × Obj)) (σ : St) (Q : List V → Hp → Prop) (us : List Value) (s' : Shared) : Prop := ∃ vs H', Inv X pins σ H' s' ∧ Vals vs us ∧ Q vs H'
def SP (X : Cx) (pins : List (Addr × Obj)) (D : Ends) (f : Flow) (s' : Shared) : Prop :=
  match f with
  | .next => ∃ σ' H', Inv X pins σ' H' s' ∧ D.nx σ' H'
  | .brk => ∃ σ' H', Inv X pins σ' H' s' ∧ D.bk σ' H'
  | .cont => ∃ σ' H', Inv X pins σ' H' s' ∧ D.ct σ' H'
  | .ret u => ∃ v σ' H', Inv X pins σ' H' s' ∧ RelV v u ∧ D.rt v H'

@[irreducible] def PE (X : Cx) (e : Expr) (t : TE) : Prop :=
  ∀ (pins : List (Addr × Obj)) (s : Shared) (σ : St) (H : Hp) (Q : VK), Inv X pins σ H s → t σ H Q → wpAny (model X.prog X.w) X.A (eval e X.env) (EP X pins σ Q) X.xe s
@[irreducible] def PT (X : Cx) (e : Expr) (t : TT) : Prop :=
  ∀ (pins : List (Addr × Obj)) (s : Shared) (σ : St) (H : Hp) (Q : Bool → Hp → Prop), Inv X pins σ H s → t σ H Q → wpAny (model X.prog X.w) X.A (isTrue e X.env (eval e X.env)) (TP X pins σ Q) X.xe s
def PW (X : Cx) (e : Expr) (t : TT) : Prop :=
  ∀ (whole : Sem Value) (pins : List (Addr × Obj)) (s : Shared) (σ : St) (H : Hp) (Q : Bool → Hp → Prop), Inv X pins σ H s → t σ H Q → wpAny (model X.prog X.w) X.A (isTrue e X.env whole) (TP X pins σ Q) X.xe s
theorem PW.pt {X : Cx} {e : Expr} {t : TT} (h : PW X e t) : PT X e t := by
  with_unfolding_all
    exact h _
@[irreducible] def PA (X : Cx) (es : List Expr) (t : TA) : Prop :=
  ∀ (pos : Pos) (pins : List (Addr × Obj)) (s : Shared) (σ : St) (H : Hp) (Q : List V → Hp → Prop), Inv X pins σ H s → t σ H Q → wpAny (model X.prog X.w) X.A (spliced (backTo pos (starEach es X.env))) (AP X pins σ Q) X.xe s
@[irreducible] def PS (X : Cx) (st : Stmt) (t : TS) : Prop :=
  ∀ (pins : List (Addr × Obj)) (s : Shared) (σ : St) (H : Hp) (D : Ends), Inv X pins σ H s → t D σ H → wpAny (model X.prog X.w) X.A (exec st X.env) (SP X pins D) X.xe s
@[irreducible] def PSs (X : Cx) (st : List Stmt) (t : TS) : Prop :=
  ∀ (pins : List (Addr × Obj)) (s : Shared) (σ : St) (H : Hp) (D : Ends), Inv X pins σ H s → t D σ H → wpAny (model X.prog X.w) X.A (execs st X.env) (SP X pins D) X.xe s
theorem thn {α : Type} {t : Sem α} {Q Q' : α → Shared → Prop} {M : Model} {A : Around} {E : Value → Shared → Prop} {s : Shared} (h : wpAny M A t Q E s) (hQ : ∀ a s, Q a s → Q' a s) : wpAny M A t Q' E s := wpAny_mono h hQ fun _ _ x => x
end L2

namespace L2
open PySem PySem.Spec PyProof.Rows
section
variable {X : Cx}

/-! ### names and constants -/
def tVar (i : Nat) : TE := fun σ H Q => ∃ v, σ[i]? = some (some v) ∧ Q v H
def tC (v : V) : TE := fun _ H Q => Q v H
theorem pe_var {i : Nat} {x : Str} {pos : Pos} (hN : X.N[i]? = some x) (hv : Vis X.env.scope x) (hd : (x == ("__debug__" : Str)) = false := by decide) (hcd : (x == ("__classdict__" : Str)) = false := by decide) : PE X (.Name x pos) (tVar i) := by
  with_unfolding_all
    intro pins s σ H Q I h
    obtain ⟨v, e, h⟩ := h
    obtain ⟨m, hn, hl⟩ := I.loc
    obtain ⟨u, r, l⟩ := hl i x v hN e hv
    have fin : EP X pins σ Q u s := ⟨v, H, I, r, h⟩
    rcases l with ⟨hk, hm⟩ | ⟨hk, c, hc, hcell⟩
    · exact wpAny_Name (wpAny_loadName_local I.ok.kind hk hn hm fin) hd
    · rcases hk with hk | hk
      · exact wpAny_Name (wpAny_loadName_cell I.ok.kind hk hc hcell fin) hd
      · exact wpAny_Name (wpAny_loadName_free I.ok.kind hk hc hcell fin hcd) hd
theorem pe_int {i j pos} : PE X (.Constant (.int i) j pos) (tC (.int i)) := by
  with_unfolding_all
    exact fun _ _ _ H _ I h => wpAny_Constant_int ⟨.int i, H, I.tok _, ⟨_, rfl⟩, h⟩
theorem pe_bl {b j pos} : PE X (.Constant (.bool b) j pos) (tC (.bl b)) := by
  with_unfolding_all
    exact fun _ _ _ H _ I h => Constant_bool ⟨.bl b, H, I, rfl, h⟩
theorem pe_non {j pos} : PE X (.Constant .none j pos) (tC .non) := by
  with_unfolding_all
    exact fun _ _ _ H _ I h => Constant_none ⟨.non, H, I, rfl, h⟩
def Gl (X : Cx) (x : Str) : Prop := X.env.kindOf x = some .globalImplicit
theorem ld_glob {E : Value → Shared → Prop} {pins : List (Addr × Obj)} {s : Shared} {σ : St} {H : Hp} {x : Str} {u : Value} {pos : Pos} {Q : Value → Shared → Prop} (I : Inv X pins σ H s) (hg : Gl X x) (hm : X.mg x = some u) (h : Q u s)
    (hd : (x == ("__debug__" : Str)) = false := by decide) : wpAny (model X.prog X.w) X.A (eval (.Name x pos) X.env) Q E s :=
  Calls.Name_function_global I.ok.kind hg (Calls.loadGlobal_global (by rw [I.ok.glob]; exact I.mod.glob.keeps I.bk) hm h) hd
theorem ld_blt {E : Value → Shared → Prop} {pins : List (Addr × Obj)} {s : Shared} {σ : St} {H : Hp} {x : Str} {u : Value} {pos : Pos} {Q : Value → Shared → Prop} (I : Inv X pins σ H s) (hg : Gl X x) (hm : X.mg x = none) (hv : bootBuiltins x = some u) (h : Q u s)
    (hn : x ≠ "__name__" := by decide) (hd : (x == ("__debug__" : Str)) = false := by decide) : wpAny (model X.prog X.w) X.A (eval (.Name x pos) X.env) Q E s := by
  obtain ⟨mb, h1, h2⟩ := I.mod.blt
  exact Calls.Name_function_global I.ok.kind hg (Calls.loadGlobal_builtin (by rw [I.ok.glob]; exact I.mod.glob.keeps I.bk) hm (by rw [I.ok.blt]; exact h1.keeps I.bk) ((h2 x hn).trans hv) h) hd
theorem pe_bltn {x : Str} {v : V} {u : Value} {pos : Pos} (hg : Gl X x) (hm : X.mg x = none) (hv : bootBuiltins x = some u) (r : RelV v u) (hn : x ≠ "__name__" := by decide) (hd : (x == ("__debug__" : Str)) = false := by decide) : PE X (.Name x pos) (tC v) := by
  with_unfolding_all
    exact fun _ _ _ H _ I h => ld_blt I hg hm hv ⟨v, H, I, r, h⟩ hn hd

/-! ### arithmetic -/
variable {a b : Expr} {ta tb : TE} {pos : Pos}
/-! ### comparisons -/
def tB (t : TE) : TT := fun σ H Q => t σ H fun x H1 => ∃ c, x = .bl c ∧ Q c H1
theorem pt_val {e : Expr} {t : TE} (h : PE X e t) (he : ∀ whole, isTrue e X.env whole = (do let v ← whole; standAt e.pos; holding [v] (truthy v)) := by intro _; rfl) : PT X e (tB t) := by
  with_unfolding_all
    intro pins s σ H Q I hw
    refine isTrue_plain (thn (h pins s σ H _ I hw) fun v s1 ⟨x, H1, I1, r1, q1⟩ => ?_) (he _)
    obtain ⟨d, rfl, q⟩ := q1
    cases r1
    exact wpAny_truthy_bool ⟨H1, I1, q⟩

/-! ### and, or, not -/
variable {tA tB' : TT} {rest : List Expr}
def tAnd (t u : TT) : TT := fun σ H Q => t σ H fun c H1 => if c = true then u σ H1 Q else Q false H1
def tOr (t u : TT) : TT := fun σ H Q => t σ H fun c H1 => if c = true then Q true H1 else u σ H1 Q
def tNot (t : TT) : TT := fun σ H Q => t σ H fun c H1 => Q (!c) H1
theorem pw_and1 (ha : PT X a tA) : PW X (.BoolOp .And [a] pos) tA := by
  with_unfolding_all
    intro wh pins s σ H Q I h
    refine isTrue_and (thn (ha pins s σ H Q I h) fun c s1 e => ?_)
    cases c with
    | true => exact isTrue_and_nil e
    | false => exact e
theorem pw_or1 (ha : PT X a tA) : PW X (.BoolOp .Or [a] pos) tA := by
  with_unfolding_all
    intro wh pins s σ H Q I h
    refine isTrue_or (thn (ha pins s σ H Q I h) fun c s1 e => ?_)
    cases c with
    | false => exact isTrue_or_nil e
    | true => exact e
theorem pw_and (ha : PT X a tA) (hb : PW X (.BoolOp .And (b :: rest) pos) tB') : PW X (.BoolOp .And (a :: b :: rest) pos) (tAnd tA tB') := by
  with_unfolding_all
    intro wh pins s σ H Q I h
    refine isTrue_and (thn (ha pins s σ H _ I h) fun c s1 ⟨H1, I1, q1⟩ => ?_)
    cases c with
    | true => exact hb wh pins s1 σ H1 Q I1 q1
    | false => exact ⟨H1, I1, q1⟩
theorem pw_or (ha : PT X a tA) (hb : PW X (.BoolOp .Or (b :: rest) pos) tB') : PW X (.BoolOp .Or (a :: b :: rest) pos) (tOr tA tB') := by
  with_unfolding_all
    intro wh pins s σ H Q I h
    refine isTrue_or (thn (ha pins s σ H _ I h) fun c s1 ⟨H1, I1, q1⟩ => ?_)
    cases c with
    | true => exact ⟨H1, I1, q1⟩
    | false => exact hb wh pins s1 σ H1 Q I1 q1
theorem pt_not (ha : PT X a tA) : PT X (.UnaryOp .Not a pos) (tNot tA) := by
  with_unfolding_all
    intro pins s σ H Q I h
    exact isTrue_not (ha pins s σ H (fun c H1 => Q (!c) H1) I h)
def tAndV (ta tb : TE) : TE := fun σ H Q => ta σ H fun x H1 => ∃ c, x = .bl c ∧ if c = true then tb σ H1 Q else Q (.bl false) H1
theorem pe_one {op} {t : TE} (h : PE X a t) : PE X (.BoolOp op [a] pos) t := by
  with_unfolding_all
    exact fun pins s σ H Q I hw => BoolOp_one (h pins s σ H Q I hw)
theorem pe_and (ha : PE X a ta) (hb : PE X (.BoolOp .And (b :: rest) pos) tb) : PE X (.BoolOp .And (a :: b :: rest) pos) (tAndV ta tb) := by
  with_unfolding_all
    intro pins s σ H Q I h
    refine BoolOp_and (thn (ha pins s σ H _ I h) fun v s1 ⟨x, H1, I1, r1, q1⟩ => ?_)
    obtain ⟨c, rfl, q1⟩ := q1
    cases r1
    refine wpAny_truthy_bool ?_
    cases c with
    | true => exact hb pins s1 σ H1 Q I1 q1
    | false => exact ⟨.bl false, H1, I1, rfl, q1⟩
def tIf (t : TT) (ta tb : TE) : TE := fun σ H Q => t σ H fun c H1 => if c = true then ta σ H1 Q else tb σ H1 Q
theorem pe_ifExp {c : Expr} (hc : PT X c tA) (ha : PE X a ta) (hb : PE X b tb) : PE X (.IfExp c a b pos) (tIf tA ta tb) := by
  with_unfolding_all
    intro pins s σ H Q I h
    refine wpAny_IfExp (thn (hc pins s σ H _ I h) fun d s1 ⟨H1, I1, q1⟩ => ?_)
    cases d with
    | true => exact ha pins s1 σ H1 Q I1 q1
    | false => exact hb pins s1 σ H1 Q I1 q1
end
end L2

namespace L2
open PySem PySem.Spec PyProof.Rows

/-! ### a list, a tuple that is read: tracked, frozen, or an object of the module -/
def SqL (K : PySem.W.Frag) (H : Hp) (a : Addr) (xs : List V) : Prop :=
  Rd H a (.lst xs) ∨
    ∃ (o : Obj) (its : Array Value) (n : Nat), K.lookup a = some o ∧ o.cls = .type "list" ∧ o.dict = none ∧ o.data = .seq its n ∧ its.size ≤ sizeLine ∧ Vals xs its.toList
def SqT (K : PySem.W.Frag) (H : Hp) (a : Addr) (xs : List V) : Prop :=
  Rd H a (.tup xs) ∨
    ∃ (o : Obj) (its : Array Value) (n : Nat), K.lookup a = some o ∧ o.cls = .type "tuple" ∧ o.data = .seq its n ∧ its.size ≤ sizeLine ∧ Vals xs its.toList
def absV : Value → Option V
  | .none => some .non
  | .bool b => some (.bl b)
  | .int i _ => some (.int i)
  | .str x _ => some (.str x)
  | .bytes b _ => some (.byt b)
  | .float b _ => some (.flt b)
  | .ref a => some (.ref a)
  | .type n => some (.ty n)
  | _ => none
theorem RelV.abs {x : V} {u : Value} (r : RelV x u) : absV u = some x := by
  cases x with
  | non => cases r; rfl
  | bl _ => cases r; rfl
  | int _ => obtain ⟨t, rfl⟩ := r; rfl
  | str _ => obtain ⟨t, rfl⟩ := r; rfl
  | byt _ => obtain ⟨t, rfl⟩ := r; rfl
  | flt _ => obtain ⟨t, rfl⟩ := r; rfl
  | ref _ => cases r; rfl
  | ty _ => cases r; rfl
theorem RelV.inj {x y : V} {u : Value} (r : RelV x u) (q : RelV y u) : x = y := Option.some.inj (r.abs.symm.trans q.abs)
theorem Vals.inj : ∀ {xs ys : List V} {us : List Value}, Vals xs us → Vals ys us → xs = ys
  | _, _, _, .nil, .nil => rfl
  | _, _, _, .cons r t, .cons r' t' => by rw [r.inj r', Vals.inj t t']
section
variable {X : Cx} {pins : List (Addr × Obj)} {σ : St} {H : Hp} {s : Shared} {a : Addr} {xs ys : List V}
theorem SqL.of {K : PySem.W.Frag} (h : H a = some (.lst xs)) : SqL K H a xs := .inl (.inl h)
theorem SqT.of {K : PySem.W.Frag} (h : H a = some (.tup xs)) : SqT K H a xs := .inl (.inl h)
theorem Inv.list (I : Inv X pins σ H s) (h : SqL X.K H a xs) : ∃ its : List Value, Vals xs its ∧ PlainL s.heap a its.toArray ∧ xs.length ≤ sizeLine := by
  rcases h with h | ⟨o, its, n, hk, hc, hd, hs, hz, r⟩
  · obtain ⟨z, its, n, r, e⟩ := h.ok I.hok
    exact ⟨its, r, ⟨_, n, e, rfl, rfl, rfl⟩, z⟩
  · refine ⟨its.toList, r, ⟨o, n, I.kIn a o hk, hc, hd, by simpa using hs⟩, ?_⟩
    have e := r.length
    simp only [Array.length_toList] at e
    omega
theorem Inv.tuple (I : Inv X pins σ H s) (h : SqT X.K H a xs) : ∃ its : List Value, Vals xs its ∧ IsTup s.heap a its.toArray ∧ xs.length ≤ sizeLine := by
  rcases h with h | ⟨o, its, n, hk, hc, hs, hz, r⟩
  · obtain ⟨z, its, r, p⟩ := h.ok I.hok
    exact ⟨its, r, p, z⟩
  · refine ⟨its.toList, r, ⟨o, I.kIn a o hk, hc, n, by simpa using hs⟩, ?_⟩
    have e := r.length
    simp only [Array.length_toList] at e
    omega
theorem Inv.list_inj (I : Inv X pins σ H s) (h : SqL X.K H a xs) (h' : SqL X.K H a ys) : xs = ys := by
  obtain ⟨its, r, ⟨o, n, e, _, _, d⟩, _⟩ := I.list h
  obtain ⟨its', r', ⟨o', n', e', _, _, d'⟩, _⟩ := I.list h'
  rw [e] at e'; cases e'
  rw [d] at d'
  injection d' with d1 _
  have : its = its' := by simpa using congrArg Array.toList d1
  subst this
  exact r.inj r'
theorem Inv.tuple_inj (I : Inv X pins σ H s) (h : SqT X.K H a xs) (h' : SqT X.K H a ys) : xs = ys := by
  obtain ⟨its, r, ⟨o, e, _, n, d⟩, _⟩ := I.tuple h
  obtain ⟨its', r', ⟨o', e', _, n', d'⟩, _⟩ := I.tuple h'
  rw [e] at e'; cases e'
  rw [d] at d'
  injection d' with d1 _
  have : its = its' := by simpa using congrArg Array.toList d1
  subst this
  exact r.inj r'
end

/-! ### another wish about exceptions -/
abbrev Cx.wish (X : Cx) (E : Value → Shared → Prop) : Cx := { X with xe := E }
abbrev Cx.nox (X : Cx) : Cx := X.wish fun _ _ => False
theorem Cx.Ok.wish {X : Cx} (ok : X.Ok) (E : Value → Shared → Prop) : (X.wish E).Ok :=
  ⟨ok.mod, ok.kind, ok.glob, ok.blt, ok.above, ok.inj, ok.has, ok.cab, ok.hd, ok.frames, ok.stk, ok.exf, ok.bs, ok.bsz, ok.noex, ok.exfs, ok.funs, ok.frf⟩
theorem Cx.Ok.unwish {X : Cx} {E : Value → Shared → Prop} (ok : (X.wish E).Ok) : X.Ok :=
  ⟨ok.mod, ok.kind, ok.glob, ok.blt, ok.above, ok.inj, ok.has, ok.cab, ok.hd, ok.frames, ok.stk, ok.exf, ok.bs, ok.bsz, ok.noex, ok.exfs, ok.funs, ok.frf⟩
section
variable {X : Cx} {pins : List (Addr × Obj)} {σ : St} {H : Hp} {s : Shared} {E : Value → Shared → Prop}
theorem Inv.wish (I : Inv X pins σ H s) (E : Value → Shared → Prop) : Inv (X.wish E) pins σ H s := ⟨I.ok.wish E, I.os, I.bare, I.base, I.loc, I.cell, I.free, I.freeC, I.pin, I.hok, I.len⟩
theorem Inv.unwish (I : Inv (X.wish E) pins σ H s) : Inv X pins σ H s := ⟨I.ok.unwish, I.os, I.bare, I.base, I.loc, I.cell, I.free, I.freeC, I.pin, I.hok, I.len⟩
theorem SP.unwish {D : Ends} {f : Flow} {s' : Shared} (h : SP (X.wish E) pins D f s') : SP X pins D f s' := by
  cases f with
  | next => obtain ⟨σ', H', I, q⟩ := h; exact ⟨σ', H', I.unwish, q⟩
  | brk => obtain ⟨σ', H', I, q⟩ := h; exact ⟨σ', H', I.unwish, q⟩
  | cont => obtain ⟨σ', H', I, q⟩ := h; exact ⟨σ', H', I.unwish, q⟩
  | ret u => obtain ⟨v, σ', H', I, r, q⟩ := h; exact ⟨v, σ', H', I.unwish, r, q⟩
theorem PSs.nox {st : List Stmt} {t : TS} (h : PSs X.nox st t) : PSs X st t := by
  with_unfolding_all
    exact fun pins s σ H D I hw =>
      wpAny_mono (h pins s σ H D (I.wish _) hw) (fun _ _ q => q.unwish) fun _ _ z => False.elim z
end

/-! ### blocks and small statements -/
section
variable {X : Cx} {st : Stmt} {rest : List Stmt} {t u : TS} {e : Expr} {te : TE} {pos : Pos}
def tNext : TS := fun D σ H => D.nx σ H
def tSeq (t u : TS) : TS := fun D σ H => t { D with nx := u D } σ H
theorem pss_nil : PSs X [] tNext := by
  with_unfolding_all
    exact fun _ _ σ H _ I h => wpAny_execs_nil ⟨σ, H, I, h⟩
theorem pss_cons (h1 : PS X st t) (h2 : PSs X rest u) : PSs X (st :: rest) (tSeq t u) := by
  with_unfolding_all
    intro pins s σ H D I h
    refine wpAny_execs_cons (thn (h1 pins s σ H { D with nx := u D } I h) fun f s1 q => ?_)
    cases f with
    | next =>
      obtain ⟨σ', H', I', q⟩ := q
      exact h2 pins s1 σ' H' D I' q
    | ret v => exact q
    | brk => exact q
    | cont => exact q
theorem pss_one (h1 : PS X st t) : PSs X [st] t := by
  with_unfolding_all
    intro pins s σ H D I h
    refine wpAny_execs_cons (thn (h1 pins s σ H D I h) fun f s1 q => ?_)
    cases f with
    | next => exact wpAny_execs_nil q
    | ret v => exact q
    | brk => exact q
    | cont => exact q
theorem Inv.quiet {pins : List (Addr × Obj)} {σ : St} {H : Hp} {s : Shared} (I : Inv X pins σ H s) : interactive X.env = false := by simp [interactive, I.ok.kind]
def tDrop (te : TE) : TS := fun D σ H => te σ H fun _ H1 => D.nx σ H1
theorem ps_expr (he : PE X e te) (hs : swapsWith e none pos.line X.env = pure false := by rfl) : PS X (.Expr e pos) (tDrop te) := by
  with_unfolding_all
    intro pins s σ H D I h
    exact wpAny_Expr_any (thn (he pins s σ H _ I h) fun v s1 ⟨x, H1, I1, r1, q1⟩ => ⟨σ, H1, I1, q1⟩) I.quiet hs
def tRet (te : TE) : TS := fun D σ H => te σ H D.rt
theorem ps_ret (he : PE X e te) : PS X (.Return (some e) pos) (tRet te) := by
  with_unfolding_all
    intro pins s σ H D I h
    exact wpAny_Return_some (thn (he pins s σ H _ I h) fun v s1 ⟨x, H1, I1, r1, q1⟩ => ⟨x, σ, H1, I1, r1, q1⟩)
def tIfS (c : TT) (t u : TS) : TS := fun D σ H => c σ H fun b H1 => if b = true then t D σ H1 else u D σ H1
theorem ps_if {c : Expr} {a b : List Stmt} {tc : TT} (hc : PT X c tc) (ha : PSs X a t) (hb : PSs X b u) : PS X (.If c a b pos) (tIfS tc t u) := by
  with_unfolding_all
    intro pins s σ H D I h
    refine wpAny_If (thn (hc pins s σ H _ I h) fun d s1 ⟨H1, I1, q1⟩ => ?_)
    cases d with
    | true => exact ha pins s1 σ H1 D I1 q1
    | false => exact hb pins s1 σ H1 D I1 q1
def tNever : TS := fun _ _ _ => False
theorem ps_never : PS X st tNever := by
  with_unfolding_all
    exact fun _ _ _ _ _ _ h => h.elim
end

/-! ### targets -/
abbrev TG := V → St → Hp → (St → Hp → Prop) → Prop
abbrev TGs := List V → St → Hp → (St → Hp → Prop) → Prop
def PG (X : Cx) (target : Expr) (t : TG) : Prop :=
  ∀ (pins : List (Addr × Obj)) (s : Shared) (σ : St) (H : Hp) (v : V) (u : Value) (Q : St → Hp → Prop), Inv X pins σ H s → RelV v u → t v σ H Q →
    wpAny (model X.prog X.w) X.A (assign target X.env u) (fun _ s' => ∃ σ' H', Inv X pins σ' H' s' ∧ Q σ' H') X.xe s
def PGs (X : Cx) (ts : List Expr) (t : TGs) : Prop :=
  ∀ (pins : List (Addr × Obj)) (s : Shared) (σ : St) (H : Hp) (vs : List V) (us : List Value) (Q : St → Hp → Prop), Inv X pins σ H s → Vals vs us → t vs σ H Q →
    wpAny (model X.prog X.w) X.A (assignInOrder ((assignEach ts X.env).map (·.2)) us) (fun _ s' => ∃ σ' H', Inv X pins σ' H' s' ∧ Q σ' H') X.xe s
abbrev TIp := V → V → Hp → VK → Prop
def PIp (X : Cx) (op : Operator) (t : TIp) : Prop :=
  ∀ (pins : List (Addr × Obj)) (s : Shared) (σ : St) (H : Hp) (x y : V) (v u : Value) (Q : VK), Inv X pins σ H s → RelV x v → RelV y u → t x y H Q →
    wpAny (model X.prog X.w) X.A (inplaceOp op v u) (EP X pins σ Q) X.xe s
section
variable {X : Cx} {pos : Pos}
def gName (i : Nat) : TG := fun v σ H Q => Q (σ.set i (some v)) H
theorem pg_name {i : Nat} {x : Str} (hN : X.N.Nodup) (hi : X.N[i]? = some x) (hx : Loc X.env.scope x) (hf : X.fn x = true ∨ X.env.scope.names.lookup x = some .local := by first | exact .inl rfl | exact .inr rfl | assumption) : PG X (.Name x pos) (gName i) := by
  intro pins s σ H v u Q I r h
  exact wpAny_assign_Name (store_ok I hN hi hx r (fun s' I' => ⟨_, H, I', h⟩) hf)
def gNil : TGs := fun vs σ H Q => vs = [] ∧ Q σ H
def gCons (t : TG) (u : TGs) : TGs := fun vs σ H Q => ∃ v r, vs = v :: r ∧ t v σ H fun σ' H' => u r σ' H' Q
theorem pgs_nil : PGs X [] gNil := by
  intro pins s σ H vs us Q I r h
  obtain ⟨e, h⟩ := h
  subst e
  cases r
  exact assignInOrder_nil ⟨σ, H, I, h⟩
theorem pgs_cons {e : Expr} {es : List Expr} {t : TG} {u : TGs} (h1 : PG X e t) (h2 : PGs X es u)
    (hs : (assignEach (e :: es) X.env).map (·.2) = assign e X.env :: (assignEach es X.env).map (·.2) := by rfl) : PGs X (e :: es) (gCons t u) := by
  intro pins s σ H vs us Q I r h
  obtain ⟨v, vr, e1, h⟩ := h
  subst e1
  cases r with
  | cons r rr =>
    rw [hs]
    refine assignInOrder_cons (thn (h1 pins s σ H _ _ _ I r h) fun _ s1 ⟨σ1, H1, I1, q1⟩ => ?_)
    exact h2 pins s1 σ1 H1 _ _ Q I1 rr q1
def gTup (K : PySem.W.Frag) (n : Nat) (t : TGs) : TG := fun v σ H Q => ∃ a xs, v = .ref a ∧ SqT K H a xs ∧ xs.length = n ∧ t xs σ H Q
theorem pg_tup {es : List Expr} {k : Nat} {t : TGs} {n : Nat} (hc : X.calm = true) (h : PGs X es t)
    (hn : (assignEach es X.env).length = n := by rfl) (hst : (assignEach es X.env).findIdx? (·.1) = none := by rfl) : PG X (.Tuple es k pos) (gTup X.K n t) := by
  intro pins s σ H v u Q I r hw
  obtain ⟨a, xs, e1, hq, hl, hw⟩ := hw
  subst e1
  cases r
  obtain ⟨its, rv, ht, hz⟩ := I.tuple hq
  refine assign_Tuple_tuple (I.ok.hd hc) ht (by simp [hn, ← hl, rv.length]) hst fun h' hx => ?_
  have I1 : Inv X pins σ H { s with heap := h' } := I.kept (t' := s.toks) fun b o e => hx b o (Nat.ne_of_lt (Heap.lt_size e)) e
  exact h pins _ σ H xs _ Q I1 (by simpa using rv) hw
def tAsg (te : TE) (g : TG) : TS := fun D σ H => te σ H fun x H1 => g x σ H1 D.nx
theorem ps_asg {tg e : Expr} {te : TE} {g : TG} (he : PE X e te) (hg : PG X tg g) (hs : swapsWithSole [tg] e pos.line X.env = pure false := by rfl) (hw : swappedStores [tg] e X.env = pure none := by rfl)
    (h1 : (assignEach [tg] X.env).map (·.2) = [assign tg X.env] := by rfl) : PS X (.Assign [tg] e pos) (tAsg te g) := by
  with_unfolding_all
    intro pins s σ H D I h
    refine wpAny_Assign_stores (thn (he pins s σ H _ I h) fun v s1 ⟨x, H1, I1, r1, q1⟩ => ?_) hs hw
    rw [h1]
    exact thn (hg pins s1 σ H1 x v _ I1 r1 q1) fun _ s2 q => q
theorem ps_set {i : Nat} {x : Str} {e : Expr} {te : TE} {pos' : Pos} (hN : X.N.Nodup) (hi : X.N[i]? = some x) (hx : Loc X.env.scope x) (he : PE X e te) (hs : swapsWith e (some (.Name x pos')) pos.line X.env = pure false := by rfl) (hf : X.fn x = true ∨ X.env.scope.names.lookup x = some .local := by first | exact .inl rfl | exact .inr rfl | assumption) :
    PS X (.Assign [.Name x pos'] e pos) (tAsg te (gName i)) := by
  with_unfolding_all
    intro pins s σ H D I h
    refine wpAny_Assign_Name (thn (he pins s σ H _ I h) fun v s1 ⟨y, H1, I1, r1, q1⟩ => ?_) hs
    exact store_ok I1 hN hi hx r1 (fun s2 I2 => ⟨_, H1, I2, q1⟩) hf
def tAug (i : Nat) (te : TE) (ti : TIp) : TS := fun D σ H => ∃ x, σ[i]? = some (some x) ∧ te σ H fun y H1 => ti x y H1 fun z H2 => D.nx (σ.set i (some z)) H2
theorem ps_aug {i : Nat} {x : Str} {e : Expr} {te : TE} {op : Operator} {ti : TIp} {pos' : Pos} (hN : X.N.Nodup) (hi : X.N[i]? = some x) (hx : Loc X.env.scope x) (he : PE X e te) (ho : PIp X op ti) (hf : X.fn x = true ∨ X.env.scope.names.lookup x = some .local := by first | exact .inl rfl | exact .inr rfl | assumption) :
    PS X (.AugAssign (.Name x pos') op e pos) (tAug i te ti) := by
  with_unfolding_all
    intro pins s σ H D I h
    obtain ⟨v, e1, h⟩ := h
    obtain ⟨m, hn, hl⟩ := I.loc
    have vis : Vis X.env.scope x := by rcases hx with k | k; exact .inl k; exact .inr (.inl k)
    obtain ⟨u, r, l⟩ := hl i x v hi e1 vis
    refine wpAny_AugAssign_Name ?_
    have go : wpAny (model X.prog X.w) X.A (eval e X.env) (fun w s₂ => wpAny (model X.prog X.w) X.A (inplaceOp op u w) (fun r s₃ => wpAny (model X.prog X.w) X.A (storeName X.env x r) (fun _ => SP X pins D .next) X.xe s₃) X.xe s₂) X.xe s := by
      refine thn (he pins s σ H _ I h) fun w s1 ⟨y, H1, I1, r1, q1⟩ => ?_
      refine thn (ho pins s1 σ H1 v y u w _ I1 r r1 q1) fun z s2 ⟨zv, H2, I2, r2, q2⟩ => ?_
      exact store_ok I2 hN hi hx r2 (fun s3 I3 => ⟨_, H2, I3, q2⟩) hf
    rcases l with ⟨hk, hm⟩ | ⟨hk, c, hc, hcell⟩
    · exact wpAny_loadName_local I.ok.kind hk hn hm go
    · rcases hk with hk | hk
      · exact wpAny_loadName_cell I.ok.kind hk hc hcell go
      · rcases hx with k | k
        · have : X.env.scope.names.lookup x = some .free := hk
          rw [k] at this; cases this
        · have : X.env.scope.names.lookup x = some .free := hk
          rw [k] at this; cases this
def ipI (f : Int → Int → Int) : TIp := fun x y H Q => ∃ i j, x = .int i ∧ y = .int j ∧ Q (.int (f i j)) H
theorem ip_add : PIp X .Add (ipI fun i j => i + j) := by
  intro pins s σ H x y v u Q I r1 r2 h
  obtain ⟨i, j, e1, e2, q⟩ := h
  subst e1; subst e2
  obtain ⟨t, rfl⟩ := r1
  obtain ⟨t', rfl⟩ := r2
  exact iadd_int ⟨.int _, H, I.tok _, ⟨_, rfl⟩, q⟩
end

/-! ### while -/
section
variable {X : Cx} {pos : Pos}
def tWhile (c : TT) (tb : TS) : TS := fun D σ H => ∃ W : Nat → St → Hp → Prop, (∃ m, W m σ H) ∧ ∀ m σ H, W m σ H →
  c σ H fun b H1 => if b = true then ∃ N : St → Hp → Prop, (∀ σ' H', N σ' H' → ∃ m', m' < m ∧ W m' σ' H') ∧ tb { D with nx := N, ct := N, bk := D.nx } σ H1 else D.nx σ H1
theorem ps_while {c : Expr} {body : List Stmt} {tc : TT} {tb : TS} (hp : PassesOwn (model X.prog X.w) X.A X.env X.xe) (hc : PT X c tc) (hb : PSs X body tb) : PS X (.While c body [] pos) (tWhile tc tb) := by
  with_unfolding_all
    intro pins s σ H D I h
    obtain ⟨W, ⟨m0, w0⟩, turn⟩ := h
    refine wpAny_While (codeAny_whileLoop (fun n s' => ∃ σ' H', Inv X pins σ' H' s' ∧ W n σ' H') ?_ m0 ⟨σ, H, I, w0⟩)
    rintro n s1 ⟨σ1, H1, I1, w1⟩
    refine wpAny_passesOwn hp (thn (hc pins s1 σ1 H1 _ I1 (turn n σ1 H1 w1)) fun b s2 ⟨H2, I2, q2⟩ => ?_)
    cases b with
    | true =>
      obtain ⟨N, hN, q2⟩ := q2
      rw [if_pos rfl]
      refine wpAny_passesOwn hp (thn (hb pins s2 σ1 H2 _ I2 q2) fun f s3 q3 => ?_)
      cases f with
      | next =>
        obtain ⟨σ3, H3, I3, n3⟩ := q3
        obtain ⟨m', hm, w3⟩ := hN σ3 H3 n3
        exact ⟨m', hm, σ3, H3, I3, w3⟩
      | cont =>
        obtain ⟨σ3, H3, I3, n3⟩ := q3
        obtain ⟨m', hm, w3⟩ := hN σ3 H3 n3
        exact ⟨m', hm, σ3, H3, I3, w3⟩
      | brk => exact q3
      | ret v => exact q3
    | false =>
      rw [if_neg Bool.false_ne_true]
      exact wpAny_execs_nil ⟨σ1, H2, I2, q2⟩
end

/-! ### what a loop or a comprehension walks -/
structure It where
  go : Nat → Hp → Prop
  yld : Nat → Hp → V → Hp → Prop
  stop : Nat → Hp → Prop
def FpOk (X : Cx) (pins : List (Addr × Obj)) (H : Hp) (b : Addr) : Prop :=
  H b = none ∧ b ≠ X.env.locals ∧ b ∉ X.fs ∧ (b ∈ X.ex ∨ X.s₀.heap.objs.size ≤ b) ∧ (∀ x c, X.env.cells.lookup x = some c → c ≠ b) ∧ ∀ p ∈ X.pn ++ pins, p.1 ≠ b
theorem Inv.fpOk {X : Cx} {pins : List (Addr × Obj)} {σ : St} {H H' : Hp} {s : Shared} {b : Addr} (I : Inv X pins σ H s) (hb : s.heap.objs.size ≤ b) (hn : H' b = none) : FpOk X pins H' b := by
  refine ⟨hn, Nat.ne_of_gt (Nat.lt_of_lt_of_le I.lt hb), I.nofs hb, .inr (Nat.le_trans I.sz hb), fun x c e z => ?_, fun p hp z => ?_⟩
  · obtain ⟨v, q⟩ := I.cell x c e
    exact absurd (Nat.lt_of_lt_of_le q.lt (by rw [z]; exact hb)) (Nat.lt_irrefl _)
  · exact absurd (Nat.lt_of_lt_of_le (Heap.lt_size (I.pin p hp).1) (by rw [z]; exact hb)) (Nat.lt_irrefl _)
structure Turn (P : Program) (w : World) (K : PySem.W.Frag) (tg : Expr) (J : It) (fp : List Addr) (it : Addr) (tn : Nat → Heap → Prop) : Prop where
  mem : it ∈ fp
  obj : ∀ i h, tn i h → ∀ b ∈ fp, ∃ o, h.get? b = some o ∧ ∀ v, o.data ≠ .cell v
  keep : ∀ i h h', tn i h → (∀ b ∈ fp, ∀ o, h.get? b = some o → h'.get? b = some o) → tn i h'
  item : ∀ (X : Cx), X.prog = P → X.w = w → X.K = K → X.calm = true → ∀ (i : Nat) (pins : List (Addr × Obj)) (s : Shared) (σ : St) (H : Hp) (E : Value → Shared → Prop), Inv X pins σ H s → (∀ b ∈ fp, FpOk X pins H b) → tn i s.heap → J.go i H →
    wpAny (model P w) X.A (pyNext (.ref it)) (fun r s1 => ∃ u, r = some u ∧
      wpAny (model P w) X.A (letOwnedTupleGo tg (.ref it) u) (fun _ s2 => ∃ x H', Inv X pins σ H' s2 ∧ RelV x u ∧ J.yld i H x H' ∧ tn (i + 1) s2.heap ∧ ∀ b ∈ fp, H' b = none) E s1) E s
  done : ∀ (X : Cx), X.prog = P → X.w = w → X.K = K → X.calm = true → ∀ (i : Nat) (pins : List (Addr × Obj)) (s : Shared) (σ : St) (H : Hp) (E : Value → Shared → Prop), Inv X pins σ H s → (∀ b ∈ fp, FpOk X pins H b) → tn i s.heap → J.stop i H →
    wpAny (model P w) X.A (pyNext (.ref it)) (fun r s1 => r = none ∧ Inv X pins σ H s1) E s
  self : ∀ (A : Around) (i : Nat) (s : Shared) (Q : Value → Shared → Prop) (E : Value → Shared → Prop), tn i s.heap → Q (.ref it) s → wpAny (model P w) A (pyIter (.ref it)) Q E s
abbrev TI := St → Hp → (It → Hp → Prop) → Prop
def PIE (X : Cx) (pins : List (Addr × Obj)) (σ : St) (tg : Expr) (R : It → Hp → Prop) (itv : Value) (s2 : Shared) : Prop :=
  ∃ (it : Addr) (fp : List Addr) (tn : Nat → Heap → Prop) (J : It) (H' : Hp), itv = .ref it ∧ Inv X pins σ H' s2 ∧ Turn X.prog X.w X.K tg J fp it tn ∧ tn 0 s2.heap ∧ (∀ b ∈ fp, FpOk X pins H' b) ∧ R J H'
def PI (X : Cx) (tg iter : Expr) (wi : TI) : Prop :=
  ∀ (pins : List (Addr × Obj)) (s : Shared) (σ : St) (H : Hp) (R : It → Hp → Prop), Inv X pins σ H s → wi σ H R →
    wpAny (model X.prog X.w) X.A (eval iter X.env) (fun v s1 => wpAny (model X.prog X.w) X.A (pyIter v) (PIE X pins σ tg R) X.xe s1) X.xe s

theorem go_of {M : Model} {A : Around} {E : Value → Shared → Prop} {s : Shared} {tg : Expr} {it : Addr} {u : Value} {o : Obj} {n : String} {vs : Array Value} {Q : Unit → Shared → Prop} (ho : s.heap.get? it = some o) (hc : o.cls = .type n) (hd : o.data = .fields vs)
    (hn : ["enumerate", "zip", "dict_itemiterator", "dict_reverseitemiterator", "odict_iterator", "itertools.zip_longest", "itertools.pairwise"].contains n = false) (hQ : Q () s) : wpAny M A (letOwnedTupleGo tg (.ref it) u) Q E s := by
  unfold letOwnedTupleGo
  cases tg <;> first
    | exact wpAny_pure hQ
    | (cases u <;> first
        | exact wpAny_pure hQ
        | (refine wpAny_bind (wpAny_load ho ?_)
           rw [hc, hd]
           show wpAny M A (if (["enumerate", "zip", "dict_itemiterator", "dict_reverseitemiterator", "odict_iterator", "itertools.zip_longest", "itertools.pairwise"].contains n && vs[0]? == some (rawInt _)) = true then _ else _) Q E s
           rw [if_neg (by intro h; rw [hn, Bool.false_and] at h; cases h)]
           exact wpAny_pure hQ))

def Itl (K : PySem.W.Frag) (a : Addr) : It :=
  ⟨fun i H => ∃ xs x, SqL K H a xs ∧ xs[i]? = some x, fun i H x H' => H' = H ∧ ∀ xs, SqL K H a xs → xs[i]? = some x, fun i H => ∃ xs, SqL K H a xs ∧ xs.length ≤ i⟩
def Itt (K : PySem.W.Frag) (a : Addr) : It :=
  ⟨fun i H => ∃ xs x, SqT K H a xs ∧ xs[i]? = some x, fun i H x H' => H' = H ∧ ∀ xs, SqT K H a xs → xs[i]? = some x, fun i H => ∃ xs, SqT K H a xs ∧ xs.length ≤ i⟩
def Itr (lo : Int) (n : Nat) : It := ⟨fun i _ => i < n, fun i H x H' => H' = H ∧ x = .int (lo + i), fun i _ => n ≤ i⟩
theorem turn_list {P : Program} {w : World} {K : PySem.W.Frag} {tg : Expr} (a it : Addr) : Turn P w K tg (Itl K a) [it] it (fun i h => h.IsListIter it a i) where
  mem := by simp
  obj := fun i h st b hb => by
    have e : b = it := by simpa using hb
    subst e
    obtain ⟨o, e, c, d⟩ := st
    exact ⟨o, e, fun v z => by rw [d] at z; cases z⟩
  keep := fun i h h' st k => st.at fun o e => k it (by simp) o e
  item := by
    intro X hP hw hK hc i pins s σ H E I hf st hg
    subst hP hw hK
    obtain ⟨xs, x, hq, hx⟩ := hg
    obtain ⟨its, rv, p, hz⟩ := I.list hq
    obtain ⟨u, hu, ru⟩ := rv.get hx
    obtain ⟨f0, f1, f2, f3, f4, f5⟩ := hf it (by simp)
    refine wpAny_pyNext_list_item st p.isList (x := u) (by simpa using hu) fun h' st' sb => ?_
    have I1 : Inv X pins σ H { s with heap := h' } := I.turned (t' := s.toks) (fun b o hb e => (sb.2 b hb).trans e) f0 f1 f3 f4 f5
    obtain ⟨o, e, c, d⟩ := id st'
    exact ⟨u, rfl, go_of (s := { s with heap := h' }) e c d (by decide) ⟨x, H, I1, ru, ⟨rfl, fun ys hy => by rw [I.list_inj hy hq]; exact hx⟩, st', fun b hb => (hf b hb).1⟩⟩
  done := by
    intro X hP hw hK hc i pins s σ H E I hf st hg
    subst hP hw hK
    obtain ⟨xs, hq, hx⟩ := hg
    obtain ⟨its, rv, p, hz⟩ := I.list hq
    obtain ⟨f0, f1, f2, f3, f4, f5⟩ := hf it (by simp)
    have hl := rv.length
    exact wpAny_pyNext_list_end (I.ok.hd hc) st p.isList (by simp; omega) fun h' eb => ⟨rfl, I.turned (t' := s.toks) (fun b o hb e => eb b o hb e) f0 f1 f3 f4 f5⟩
  self := fun _ _ _ _ _ st h => wpAny_pyIter_listiter st h
theorem turn_tuple {P : Program} {w : World} {K : PySem.W.Frag} {tg : Expr} (a it : Addr) : Turn P w K tg (Itt K a) [it] it (fun i h => h.IsTupleIter it a i) where
  mem := by simp
  obj := fun i h st b hb => by
    have e : b = it := by simpa using hb
    subst e
    obtain ⟨o, e, c, d⟩ := st
    exact ⟨o, e, fun v z => by rw [d] at z; cases z⟩
  keep := fun i h h' st k => st.at fun o e => k it (by simp) o e
  item := by
    intro X hP hw hK hc i pins s σ H E I hf st hg
    subst hP hw hK
    obtain ⟨xs, x, hq, hx⟩ := hg
    obtain ⟨its, rv, p, hz⟩ := I.tuple hq
    obtain ⟨u, hu, ru⟩ := rv.get hx
    obtain ⟨f0, f1, f2, f3, f4, f5⟩ := hf it (by simp)
    refine wpAny_pyNext_tuple_item st (show s.heap.IsTuple a its.toArray from p) (x := u) (by simpa using hu) fun h' st' sb => ?_
    have I1 : Inv X pins σ H { s with heap := h' } := I.turned (t' := s.toks) (fun b o hb e => (sb.2 b hb).trans e) f0 f1 f3 f4 f5
    obtain ⟨o, e, c, d⟩ := id st'
    exact ⟨u, rfl, go_of (s := { s with heap := h' }) e c d (by decide) ⟨x, H, I1, ru, ⟨rfl, fun ys hy => by rw [I.tuple_inj hy hq]; exact hx⟩, st', fun b hb => (hf b hb).1⟩⟩
  done := by
    intro X hP hw hK hc i pins s σ H E I hf st hg
    subst hP hw hK
    obtain ⟨xs, hq, hx⟩ := hg
    obtain ⟨its, rv, p, hz⟩ := I.tuple hq
    obtain ⟨f0, f1, f2, f3, f4, f5⟩ := hf it (by simp)
    have hl := rv.length
    exact wpAny_pyNext_tuple_end (I.ok.hd hc) st (show s.heap.IsTuple a its.toArray from p) (by simp; omega) fun h' eb => ⟨rfl, I.turned (t' := s.toks) (fun b o hb e => eb b o hb e) f0 f1 f3 f4 f5⟩
  self := fun _ _ _ _ _ st h => wpAny_pyIter_tupleiter st h
theorem turn_range {P : Program} {w : World} {K : PySem.W.Frag} {tg : Expr} (it : Addr) (lo : Int) (n : Nat) : Turn P w K tg (Itr lo n) [it] it (fun i h => IsRangeIter h it (lo + (i : Nat) * 1) ((n : Int) - (i : Nat)) 1) where
  mem := by simp
  obj := fun i h st b hb => by
    have e : b = it := by simpa using hb
    subst e
    exact ⟨_, st, fun v z => by
      have z' : Data.fields _ = Data.cell v := z
      cases z'⟩
  keep := fun i h h' st k => k it (by simp) _ st
  item := by
    intro X hP hw hK hc i pins s σ H E I hf st hg
    subst hP hw hK
    obtain ⟨f0, f1, f2, f3, f4, f5⟩ := hf it (by simp)
    have W := Walks.range (prog := X.prog) (w := X.w) (I.ok.hd hc) it lo 1 n
    refine W.item i s _ _ hg st fun v h' tk hv st' kk => ?_
    obtain ⟨t, rfl⟩ := hv
    have I1 : Inv X pins σ H { s with heap := h', toks := tk } := I.turned (fun b o hb e => kk b o (by simpa using hb) e) f0 f1 f3 f4 f5
    refine ⟨_, rfl, go_of (s := { s with heap := h', toks := tk }) (n := "range_iterator") st' rfl rfl (by decide) ⟨.int (lo + i), H, I1, ⟨t, ?_⟩, ⟨rfl, rfl⟩, st', fun b hb => (hf b hb).1⟩⟩
    rw [Int.mul_one]
  done := by
    intro X hP hw hK hc i pins s σ H E I hf st hg
    subst hP hw hK
    obtain ⟨f0, f1, f2, f3, f4, f5⟩ := hf it (by simp)
    exact wpAny_pyNext_range_end (I.ok.hd hc) st (by have : n ≤ i := hg; omega) fun h' eb => ⟨rfl, I.turned (t' := s.toks) (fun b o hb e => eb b o hb e) f0 f1 f3 f4 f5⟩
  self := fun _ _ _ _ _ st h => wpAny_pyIter_rangeiter st h
end L2

namespace L2
open PySem PySem.Spec PyProof.Rows
section
variable {X : Cx} {tg : Expr}
def iList (K : PySem.W.Frag) (tl : TE) : TI := fun σ H R => tl σ H fun x H1 => ∃ a, x = .ref a ∧ (∃ xs, SqL K H1 a xs) ∧ R (Itl K a) H1
def iTup (K : PySem.W.Frag) (tl : TE) : TI := fun σ H R => tl σ H fun x H1 => ∃ a, x = .ref a ∧ (∃ xs, SqT K H1 a xs) ∧ R (Itt K a) H1
theorem pi_list {l : Expr} {tl : TE} (hl : PE X l tl) : PI X tg l (iList X.K tl) := by
  with_unfolding_all
    intro pins s σ H R I h
    refine thn (hl pins s σ H _ I h) fun v s1 ⟨x, H1, I1, r1, q1⟩ => ?_
    obtain ⟨a, e, ⟨xs, hq⟩, q⟩ := q1
    subst e
    cases r1
    obtain ⟨its, rv, p, hz⟩ := I1.list hq
    refine wpAny_pyIter_list p.isList ?_
    refine ⟨s1.heap.objs.size, [s1.heap.objs.size], _, _, H1, rfl, I1.kept (t' := s1.toks) fun b o e => Heap.get?_push_of_some _ e, turn_list a _, ⟨_, Heap.get?_push_size _ rfl, rfl, rfl⟩, fun b hb => ?_, q⟩
    have e : b = s1.heap.objs.size := by simpa using hb
    subst e
    exact I1.fpOk (Nat.le_refl _) (I1.hok.fresh (Nat.le_refl _))
theorem pi_tup {l : Expr} {tl : TE} (hl : PE X l tl) : PI X tg l (iTup X.K tl) := by
  with_unfolding_all
    intro pins s σ H R I h
    refine thn (hl pins s σ H _ I h) fun v s1 ⟨x, H1, I1, r1, q1⟩ => ?_
    obtain ⟨a, e, ⟨xs, hq⟩, q⟩ := q1
    subst e
    cases r1
    obtain ⟨its, rv, p, hz⟩ := I1.tuple hq
    refine wpAny_pyIter_tuple (show s1.heap.IsTuple a its.toArray from p) ?_
    refine ⟨s1.heap.objs.size, [s1.heap.objs.size], _, _, H1, rfl, I1.kept (t' := s1.toks) fun b o e => Heap.get?_push_of_some _ e, turn_tuple a _, ⟨_, Heap.get?_push_size _ rfl, rfl, rfl⟩, fun b hb => ?_, q⟩
    have e : b = s1.heap.objs.size := by simpa using hb
    subst e
    exact I1.fpOk (Nat.le_refl _) (I1.hok.fresh (Nat.le_refl _))
theorem range_it {pins : List (Addr × Obj)} {σ : St} {H : Hp} {s : Shared} {R : It → Hp → Prop} {E : Value → Shared → Prop} {lo hi : Int} {t u v : Tok} {tk : Nat} (I : Inv X pins σ H s) (h1 : -(2 ^ 62) ≤ lo) (h2 : lo < 2 ^ 62) (h3 : -(2 ^ 62) ≤ hi) (h4 : hi < 2 ^ 62)
    (q : R (Itr lo (hi - lo).toNat) H) : wpAny (model X.prog X.w) X.A (pyIter (.ref s.heap.objs.size)) (PIE X pins σ tg R) E { s with heap := s.heap.push { cls := .type "range", data := .fields #[.int lo t, .int hi u, .int 1 v] }, toks := tk } := by
  refine wpAny_pyIter_range (IsRange.new ..) (small_one h1 h2 h3 h4) ?_
  have I1 : Inv X pins σ H { s with heap := s.heap.push { cls := .type "range", data := .fields #[.int lo t, .int hi u, .int 1 v] }, toks := tk } := I.kept fun b o e => Heap.get?_push_of_some _ e
  refine ⟨(s.heap.push { cls := .type "range", data := .fields #[.int lo t, .int hi u, .int 1 v] }).objs.size, [(s.heap.push { cls := .type "range", data := .fields #[.int lo t, .int hi u, .int 1 v] }).objs.size], _, _, H, rfl,
    I1.kept (t' := tk) fun b o e => Heap.get?_push_of_some _ e, turn_range _ lo (hi - lo).toNat, ?_, fun b hb => ?_, q⟩
  · have e1 : lo + ((0 : Nat) : Int) * 1 = lo := by simp
    have e2 : (((hi - lo).toNat : Nat) : Int) - ((0 : Nat) : Int) = Builtin.Range.rangeSize lo hi 1 := by rw [rangeSize_one]; split <;> omega
    show IsRangeIter _ _ (lo + ((0 : Nat) : Int) * 1) ((((hi - lo).toNat : Nat) : Int) - ((0 : Nat) : Int)) 1
    rw [e1, e2]
    exact Heap.get?_push_size _ rfl
  · have e : b = (s.heap.push { cls := .type "range", data := .fields #[.int lo t, .int hi u, .int 1 v] }).objs.size := by simpa using hb
    subst e
    exact I1.fpOk (Nat.le_refl _) (I1.hok.fresh (Nat.le_refl _))
def iRng1 (ta : TA) : TI := fun σ H R => ta σ H fun vs H1 => ∃ j : Int, vs = [.int j] ∧ -(2 ^ 62) ≤ j ∧ j < 2 ^ 62 ∧ R (Itr 0 j.toNat) H1
theorem pi_range1 {a : Expr} {ta : TA} {p pos : Pos} (hg : Gl X "range") (hm : X.mg "range" = none) (ha : PA X [a] ta) (hs : starEach [a] X.env = [(false, eval a X.env)] := by rfl) : PI X tg (.Call (.Name "range" p) [a] [] pos) (iRng1 ta) := by
  with_unfolding_all
    intro pins s σ H R I h
    refine Call_ (ld_blt I hg hm boot_range (PyProof.Rows.callWith_type1 (thn (ha pos pins s σ H _ I h) fun us s1 ⟨vs, H1, I1, r1, q1⟩ => ?_) hs rfl))
    obtain ⟨j, e, q1, q2, q⟩ := q1
    subst e
    cases r1 with
    | cons r rr =>
      cases rr
      obtain ⟨t, rfl⟩ := r
      exact call_range_1 (range_it I1 (by omega) (by omega) q1 q2 (by simpa using q))
/-! ### for -/
def tFor (wi : TI) (g : TG) (tb : TS) : TS := fun D σ H => wi σ H fun J H1 => ∃ W : Nat → Nat → St → Hp → Prop, (∃ m, W 0 m σ H1) ∧ ∀ i m σ H, W i m σ H →
  (J.stop i H ∧ D.nx σ H) ∨ (J.go i H ∧ ∃ N : St → Hp → Prop, (∀ σ' H', N σ' H' → ∃ m', m' < m ∧ W (i + 1) m' σ' H') ∧ ∀ x H', J.yld i H x H' → g x σ H' fun σ2 H2 => tb { D with nx := N, ct := N, bk := D.nx } σ2 H2)
def pinsAt (fp : List Addr) (h : Heap) : List (Addr × Obj) := fp.filterMap fun b => (h.get? b).map fun o => (b, o)
theorem mem_pinsAt {fp : List Addr} {h : Heap} {b : Addr} {o : Obj} (hb : b ∈ fp) (e : h.get? b = some o) : (b, o) ∈ pinsAt fp h := List.mem_filterMap.mpr ⟨b, hb, by rw [e]; rfl⟩
theorem of_pinsAt {fp : List Addr} {h : Heap} {p : Addr × Obj} (hp : p ∈ pinsAt fp h) : p.1 ∈ fp ∧ h.get? p.1 = some p.2 := by
  obtain ⟨b, hb, e⟩ := List.mem_filterMap.mp hp
  cases q : h.get? b with
  | none => rw [q] at e; cases e
  | some o =>
    rw [q] at e
    have e' : (b, o) = p := Option.some.inj e
    subst e'
    exact ⟨hb, q⟩
theorem Inv.pinned {pins : List (Addr × Obj)} {σ : St} {H : Hp} {s : Shared} {fp : List Addr} (I : Inv X pins σ H s) (hf : ∀ b ∈ fp, FpOk X pins H b) (ho : ∀ b ∈ fp, ∃ o, s.heap.get? b = some o ∧ ∀ v, o.data ≠ .cell v) : Inv X (pins ++ pinsAt fp s.heap) σ H s :=
  I.pins_of fun p hp => (List.mem_append.mp hp).elim (fun z => I.pin p (List.mem_append_right _ z)) fun z => by
    obtain ⟨hb, e⟩ := of_pinsAt z
    obtain ⟨f0, f1, f2, _⟩ := hf p.1 hb
    obtain ⟨o, e', d⟩ := ho p.1 hb
    rw [e] at e'; cases e'
    exact ⟨e, f0, f1, f2, d⟩
theorem Inv.unpinned {pins pl : List (Addr × Obj)} {σ : St} {H : Hp} {s : Shared} (I : Inv X (pins ++ pl) σ H s) : Inv X pins σ H s := I.pins_of fun p hp => I.pin p (List.mem_append_right _ (List.mem_append_left _ hp))
theorem ps_for {iter : Expr} {body : List Stmt} {wi : TI} {g : TG} {tb : TS} {pos : Pos} (hp : PassesOwn (model X.prog X.w) X.A X.env X.xe) (hc : X.calm = true) (hi : PI X tg iter wi) (hg : PG X tg g) (hb : PSs X body tb)
    (hs : ∀ x, foldedSetIterable iter X.env x = pure x := by intro _; rfl) : PS X (.For tg iter body [] pos) (tFor wi g tb) := by
  with_unfolding_all
    intro pins s σ H D I h
    refine wpAny_For (thn (hi pins s σ H _ I h) fun v s1 h1 => thn h1 fun itv s2 h2 => ?_) hs
    obtain ⟨it, fp, tn, J, H2, e, I2, T, st2, f2, W, ⟨m0, w0⟩, turn⟩ := h2
    subst e
    -- what stays true of the iterator's objects through the loop
    have stat : ∀ {H' : Hp}, (∀ b ∈ fp, H' b = none) → ∀ b ∈ fp, FpOk X pins H' b := fun hn b hb => ⟨hn b hb, (f2 b hb).2⟩
    refine codeAny_forLoop_any (fun n s' => ∃ i σ' H', Inv X pins σ' H' s' ∧ tn i s'.heap ∧ (∀ b ∈ fp, H' b = none) ∧ W i n σ' H') ?_ m0 ⟨0, σ, H2, I2, st2, fun b hb => (f2 b hb).1, w0⟩
    rintro n s3 ⟨i, σ3, H3, I3, st3, fr3, w3⟩
    rcases turn i n σ3 H3 w3 with ⟨stop, qn⟩ | ⟨go, N, hN, step⟩
    · refine wpAny_passesOwn hp (thn (T.done X rfl rfl rfl hc i pins s3 σ3 H3 X.xe I3 (stat fr3) st3 stop) fun r s4 ⟨hr, I4⟩ => ?_)
      subst hr
      exact wpAny_execs_nil ⟨σ3, H3, I4, qn⟩
    · refine wpAny_passesOwn hp (thn (T.item X rfl rfl rfl hc i pins s3 σ3 H3 X.xe I3 (stat fr3) st3 go) fun r s4 ⟨u, hr, h4⟩ => ?_)
      subst hr
      refine wpAny_passesOwn hp (thn h4 fun _ s5 ⟨x, H5, I5, r5, y5, st5, fr5⟩ => ?_)
      have I5' := I5.pinned (stat fr5) (T.obj _ _ st5)
      refine wpAny_passesOwn hp (thn (hg _ s5 σ3 H5 x u _ I5' r5 (step x H5 y5)) fun _ s6 ⟨σ6, H6, I6, q6⟩ => ?_)
      refine wpAny_passesOwn hp (thn (hb _ s6 σ6 H6 _ I6 q6) fun f s7 q7 => ?_)
      have again : ∀ {σ7 : St} {H7 : Hp}, Inv X (pins ++ pinsAt fp s5.heap) σ7 H7 s7 → N σ7 H7 → ∃ m, m < n ∧ ∃ i σ' H', Inv X pins σ' H' s7 ∧ tn i s7.heap ∧ (∀ b ∈ fp, H' b = none) ∧ W i m σ' H' := fun {σ7 H7} I7 n7 => by
        obtain ⟨m', hm, w7⟩ := hN σ7 H7 n7
        refine ⟨m', hm, i + 1, σ7, H7, I7.unpinned, T.keep _ _ _ st5 fun b hb o e => (I7.pin (b, o) (List.mem_append_right _ (List.mem_append_right _ (mem_pinsAt hb e)))).1, fun b hb => ?_, w7⟩
        obtain ⟨o, e, d⟩ := T.obj _ _ st5 b hb
        exact (I7.pin (b, o) (List.mem_append_right _ (List.mem_append_right _ (mem_pinsAt hb e)))).2.1
      cases f with
      | next => obtain ⟨σ7, H7, I7, n7⟩ := q7; exact again I7 n7
      | cont => obtain ⟨σ7, H7, I7, n7⟩ := q7; exact again I7 n7
      | brk => obtain ⟨σ7, H7, I7, q7⟩ := q7; exact ⟨σ7, H7, I7.unpinned, q7⟩
      | ret v => obtain ⟨x7, σ7, H7, I7, r7, q7⟩ := q7; exact ⟨x7, σ7, H7, I7.unpinned, r7, q7⟩
end

/-! ### the forms one uses -/
theorem for_list {K : PySem.W.Frag} {a : Addr} {xs : List V} {g : TG} {tb : TS} {D : Ends} {σ : St} {H : Hp} (Pv : Nat → St → Hp → Prop) (h0 : Pv 0 σ H) (hl : ∀ i σ H, i ≤ xs.length → Pv i σ H → SqL K H a xs)
    (hs : ∀ i x σ H, xs[i]? = some x → Pv i σ H → g x σ H fun σ2 H2 => tb { D with nx := Pv (i + 1), ct := Pv (i + 1), bk := D.nx } σ2 H2) (hd : ∀ σ H, Pv xs.length σ H → D.nx σ H) :
    ∃ W : Nat → Nat → St → Hp → Prop, (∃ m, W 0 m σ H) ∧ ∀ i m σ H, W i m σ H →
      ((Itl K a).stop i H ∧ D.nx σ H) ∨ ((Itl K a).go i H ∧ ∃ N : St → Hp → Prop, (∀ σ' H', N σ' H' → ∃ m', m' < m ∧ W (i + 1) m' σ' H') ∧ ∀ x H', (Itl K a).yld i H x H' → g x σ H' fun σ2 H2 => tb { D with nx := N, ct := N, bk := D.nx } σ2 H2) := by
  refine ⟨fun i m σ H => m = xs.length - i ∧ i ≤ xs.length ∧ Pv i σ H, ⟨xs.length, by simp, Nat.zero_le _, h0⟩, ?_⟩
  rintro i m σ H ⟨rfl, hi, p⟩
  have q := hl i σ H hi p
  by_cases hlt : i < xs.length
  · refine .inr ⟨⟨xs, xs[i], q, by simp [hlt]⟩, Pv (i + 1), fun σ' H' p' => ⟨xs.length - (i + 1), by omega, rfl, hlt, p'⟩, fun x H' y => ?_⟩
    obtain ⟨e, y⟩ := y
    subst e
    exact hs i x σ _ (y xs q) p
  · have e : i = xs.length := by omega
    subst e
    exact .inl ⟨⟨xs, q, Nat.le_refl _⟩, hd σ H p⟩
theorem for_tup {K : PySem.W.Frag} {a : Addr} {xs : List V} {g : TG} {tb : TS} {D : Ends} {σ : St} {H : Hp} (Pv : Nat → St → Hp → Prop) (h0 : Pv 0 σ H) (hl : ∀ i σ H, i ≤ xs.length → Pv i σ H → SqT K H a xs)
    (hs : ∀ i x σ H, xs[i]? = some x → Pv i σ H → g x σ H fun σ2 H2 => tb { D with nx := Pv (i + 1), ct := Pv (i + 1), bk := D.nx } σ2 H2) (hd : ∀ σ H, Pv xs.length σ H → D.nx σ H) :
    ∃ W : Nat → Nat → St → Hp → Prop, (∃ m, W 0 m σ H) ∧ ∀ i m σ H, W i m σ H →
      ((Itt K a).stop i H ∧ D.nx σ H) ∨ ((Itt K a).go i H ∧ ∃ N : St → Hp → Prop, (∀ σ' H', N σ' H' → ∃ m', m' < m ∧ W (i + 1) m' σ' H') ∧ ∀ x H', (Itt K a).yld i H x H' → g x σ H' fun σ2 H2 => tb { D with nx := N, ct := N, bk := D.nx } σ2 H2) := by
  refine ⟨fun i m σ H => m = xs.length - i ∧ i ≤ xs.length ∧ Pv i σ H, ⟨xs.length, by simp, Nat.zero_le _, h0⟩, ?_⟩
  rintro i m σ H ⟨rfl, hi, p⟩
  have q := hl i σ H hi p
  by_cases hlt : i < xs.length
  · refine .inr ⟨⟨xs, xs[i], q, by simp [hlt]⟩, Pv (i + 1), fun σ' H' p' => ⟨xs.length - (i + 1), by omega, rfl, hlt, p'⟩, fun x H' y => ?_⟩
    obtain ⟨e, y⟩ := y
    subst e
    exact hs i x σ _ (y xs q) p
  · have e : i = xs.length := by omega
    subst e
    exact .inl ⟨⟨xs, q, Nat.le_refl _⟩, hd σ H p⟩
theorem for_range {lo : Int} {n : Nat} {g : TG} {tb : TS} {D : Ends} {σ : St} {H : Hp} (Pv : Nat → St → Hp → Prop) (h0 : Pv 0 σ H)
    (hs : ∀ i σ H, i < n → Pv i σ H → g (.int (lo + i)) σ H fun σ2 H2 => tb { D with nx := Pv (i + 1), ct := Pv (i + 1), bk := D.nx } σ2 H2) (hd : ∀ σ H, Pv n σ H → D.nx σ H) :
    ∃ W : Nat → Nat → St → Hp → Prop, (∃ m, W 0 m σ H) ∧ ∀ i m σ H, W i m σ H →
      ((Itr lo n).stop i H ∧ D.nx σ H) ∨ ((Itr lo n).go i H ∧ ∃ N : St → Hp → Prop, (∀ σ' H', N σ' H' → ∃ m', m' < m ∧ W (i + 1) m' σ' H') ∧ ∀ x H', (Itr lo n).yld i H x H' → g x σ H' fun σ2 H2 => tb { D with nx := N, ct := N, bk := D.nx } σ2 H2) := by
  refine ⟨fun i m σ H => m = n - i ∧ i ≤ n ∧ Pv i σ H, ⟨n, by simp, Nat.zero_le _, h0⟩, ?_⟩
  rintro i m σ H ⟨rfl, hi, p⟩
  by_cases hlt : i < n
  · refine .inr ⟨hlt, Pv (i + 1), fun σ' H' p' => ⟨n - (i + 1), by omega, rfl, hlt, p'⟩, fun x H' y => ?_⟩
    obtain ⟨e, y⟩ := y
    subst e y
    exact hs i σ _ hlt p
  · have e : i = n := by omega
    subst e
    exact .inl ⟨Nat.le_refl _, hd σ H p⟩
theorem while_by {c : TT} {tb : TS} {D : Ends} {σ : St} {H : Hp} (Pv : St → Hp → Prop) (μ : St → Hp → Nat) (h0 : Pv σ H)
    (hs : ∀ σ H, Pv σ H → c σ H fun b H1 => if b = true then tb { D with nx := fun σ' H' => Pv σ' H' ∧ μ σ' H' < μ σ H, ct := fun σ' H' => Pv σ' H' ∧ μ σ' H' < μ σ H, bk := D.nx } σ H1 else D.nx σ H1)
    (mono : ∀ σ H Q Q', (∀ b H1, Q b H1 → Q' b H1) → c σ H Q → c σ H Q') : tWhile c tb D σ H := by
  refine ⟨fun m σ H => m = μ σ H ∧ Pv σ H, ⟨_, rfl, h0⟩, ?_⟩
  rintro m σ H ⟨rfl, p⟩
  refine mono σ H _ _ (fun b H1 q => ?_) (hs σ H p)
  cases b with
  | true => exact ⟨_, fun σ' H' ⟨p', l⟩ => ⟨_, l, rfl, p'⟩, q⟩
  | false => exact q
end L2

namespace L2
open PySem PySem.Spec PyProof.Rows

abbrev R2 := V → V → Hp → VK → Prop
def OpR (X : Cx) (f : Value → Value → Sem Value) (r : R2) : Prop :=
  ∀ (pins : List (Addr × Obj)) (s : Shared) (σ : St) (H : Hp) (x y : V) (v u : Value) (Q : VK), Inv X pins σ H s → RelV x v → RelV y u → r x y H Q →
    wpAny (model X.prog X.w) X.A (f v u) (EP X pins σ Q) X.xe s
def UnR (X : Cx) (f : Value → Sem Value) (r : V → Hp → VK → Prop) : Prop :=
  ∀ (pins : List (Addr × Obj)) (s : Shared) (σ : St) (H : Hp) (x : V) (v : Value) (Q : VK), Inv X pins σ H s → RelV x v → r x H Q →
    wpAny (model X.prog X.w) X.A (f v) (EP X pins σ Q) X.xe s
def CallR (X : Cx) (f : Value) (r : List V → Hp → VK → Prop) : Prop :=
  ∀ (pins : List (Addr × Obj)) (s : Shared) (σ : St) (H : Hp) (xs : List V) (us : List Value) (Q : VK), Inv X pins σ H s → Vals xs us → r xs H Q →
    wpAny (model X.prog X.w) X.A (call f us) (EP X pins σ Q) X.xe s
def tOp (r : R2) (ta tb : TE) : TE := fun σ H Q => ta σ H fun x H1 => tb σ H1 fun y H2 => r x y H2 Q
def tUn (r : V → Hp → VK → Prop) (ta : TE) : TE := fun σ H Q => ta σ H fun x H1 => r x H1 Q
def rI (C : Int → Int → Prop) (g : Int → Int → V) : R2 := fun x y H Q => ∃ i j, x = .int i ∧ y = .int j ∧ C i j ∧ Q (g i j) H
def rI0 (g : Int → Int → V) : R2 := fun x y H Q => ∃ i j, x = .int i ∧ y = .int j ∧ Q (g i j) H
def rU (g : Int → V) : V → Hp → VK → Prop := fun x H Q => ∃ i, x = .int i ∧ Q (g i) H

section
variable {X : Cx} {a b c : Expr} {ta tb tc : TE} {pos : Pos}

theorem binT (ha : PE X a ta) (hb : PE X b tb) {pins : List (Addr × Obj)} {s : Shared} {σ : St} {H : Hp} {R : V → V → Hp → Prop} (I : Inv X pins σ H s)
    (h : ta σ H fun x H1 => tb σ H1 fun y H2 => R x y H2) {Q : Value → Shared → Prop} {f : Value → Value → Sem Value}
    (hf : ∀ v u s2 x y H2, Inv X pins σ H2 s2 → RelV x v → RelV y u → R x y H2 → wpAny (model X.prog X.w) X.A (f v u) Q X.xe s2) :
    wpAny (model X.prog X.w) X.A (eval a X.env) (fun v s₁ => wpAny (model X.prog X.w) X.A (eval b X.env) (fun u s₂ => wpAny (model X.prog X.w) X.A (f v u) Q X.xe s₂) X.xe s₁) X.xe s := by
  with_unfolding_all
    refine thn (ha pins s σ H _ I h) fun v s1 ⟨x, H1, I1, r1, q1⟩ => ?_
    refine thn (hb pins s1 σ H1 _ I1 q1) fun u s2 ⟨y, H2, I2, r2, q2⟩ => ?_
    exact hf v u s2 x y H2 I2 r1 r2 q2

theorem pe_op {op : Operator} {r : R2} (ho : OpR X (binaryOp op) r) (ha : PE X a ta) (hb : PE X b tb) : PE X (.BinOp a op b pos) (tOp r ta tb) := by
  with_unfolding_all
    intro pins s σ H Q I h
    exact wpAny_BinOp (binT ha hb I h fun v u s2 x y H2 I2 rx ry q => ho pins s2 σ H2 x y v u Q I2 rx ry q)
theorem pe_un {op : UnaryOp} {r : V → Hp → VK → Prop} (ho : UnR X (unaryOp op) r) (ha : PE X a ta) : PE X (.UnaryOp op a pos) (tUn r ta) := by
  with_unfolding_all
    intro pins s σ H Q I h
    exact UnaryOp_ (thn (ha pins s σ H _ I h) fun v s1 ⟨x, H1, I1, r1, q1⟩ => ho pins s1 σ H1 x v Q I1 r1 q1)
/-! ### ints -/
theorem opI {f : Value → Value → Sem Value} {C : Int → Int → Prop} {g : Int → Int → Int}
    (rule : ∀ (i j : Int) (t u : Tok) (s : Shared) (Q : Value → Shared → Prop) (E : Value → Shared → Prop), C i j → Q (.int (g i j) s.toks) { s with toks := s.toks + 1 } → wpAny (model X.prog X.w) X.A (f (.int i t) (.int j u)) Q E s) :
    OpR X f (rI C fun i j => .int (g i j)) := by
  intro pins s σ H x y v u Q I rx ry h
  obtain ⟨i, j, rfl, rfl, hc, q⟩ := h
  obtain ⟨t, rfl⟩ := rx
  obtain ⟨t', rfl⟩ := ry
  exact rule i j t t' s _ _ hc ⟨.int (g i j), H, I.tok _, ⟨_, rfl⟩, q⟩
theorem opI0 {f : Value → Value → Sem Value} {g : Int → Int → Int}
    (rule : ∀ (i j : Int) (t u : Tok) (s : Shared) (Q : Value → Shared → Prop) (E : Value → Shared → Prop), Q (.int (g i j) s.toks) { s with toks := s.toks + 1 } → wpAny (model X.prog X.w) X.A (f (.int i t) (.int j u)) Q E s) :
    OpR X f (rI0 fun i j => .int (g i j)) := by
  intro pins s σ H x y v u Q I rx ry h
  obtain ⟨i, j, rfl, rfl, q⟩ := h
  obtain ⟨t, rfl⟩ := rx
  obtain ⟨t', rfl⟩ := ry
  exact rule i j t t' s _ _ ⟨.int (g i j), H, I.tok _, ⟨_, rfl⟩, q⟩
theorem opB0 {f : Value → Value → Sem Value} {g : Int → Int → Bool}
    (rule : ∀ (i j : Int) (t u : Tok) (s : Shared) (Q : Value → Shared → Prop) (E : Value → Shared → Prop), Q (.bool (g i j)) s → wpAny (model X.prog X.w) X.A (f (.int i t) (.int j u)) Q E s) :
    OpR X f (rI0 fun i j => .bl (g i j)) := by
  intro pins s σ H x y v u Q I rx ry h
  obtain ⟨i, j, rfl, rfl, q⟩ := h
  obtain ⟨t, rfl⟩ := rx
  obtain ⟨t', rfl⟩ := ry
  exact rule i j t t' s _ _ ⟨.bl (g i j), H, I, rfl, q⟩

def CDiv (i j : Int) : Prop := 0 < j ∧ j < 1073741824
def CPow (i j : Int) : Prop := 0 ≤ j ∧ j ≤ 1000000 ∧ i.natAbs < 2 ^ 64
def CMul (i j : Int) : Prop := (-(2 ^ 64) < i ∧ i < 2 ^ 64) ∨ (-(2 ^ 64) < j ∧ j < 2 ^ 64)
theorem CMul.ok {i j : Int} (h : CMul i j) : IntMulOk i j := by
  rcases h with ⟨h1, h2⟩ | ⟨h1, h2⟩
  · exact .of_left (intBits_le_64 h1 h2)
  · exact .of_right (intBits_le_64 h1 h2)
theorem two_pow_nn (k : Nat) : (0 : Int) ≤ 2 ^ k := by
  rw [two_pow_cast]
  exact Int.natCast_nonneg _

theorem op_add : OpR X (binaryOp .Add) (rI0 fun i j => .int (i + j)) := opI0 fun _ _ _ _ _ _ _ q => add_int q
theorem op_sub : OpR X (binaryOp .Sub) (rI0 fun i j => .int (i - j)) := opI0 fun _ _ _ _ _ _ _ q => sub_int q
theorem op_mul : OpR X (binaryOp .Mult) (rI CMul fun i j => .int (i * j)) := opI fun _ _ _ _ _ _ _ hc q => mul_int q hc.ok
theorem op_fdiv : OpR X (binaryOp .FloorDiv) (rI CDiv fun i j => .int (i / j)) := opI fun i j _ _ _ _ _ hc q => by
  have h1 : (0 : Int) < j := hc.1
  have h2 : j < 1073741824 := hc.2
  exact floordiv_int (by omega) (by rw [Int.fdiv_eq_ediv_of_nonneg i (by omega)]; exact q) (.inl (PyProof.noPylong_small (by omega)))
theorem op_mod : OpR X (binaryOp .Mod) (rI (fun _ j => 0 < j) fun i j => .int (i % j)) := opI fun i j _ _ _ _ _ hc q => by
  have h1 : (0 : Int) < j := hc
  exact mod_int' (by omega) (by rw [Int.fmod_eq_emod_of_nonneg i (by omega)]; exact q)
theorem op_pow : OpR X (binaryOp .Pow) (rI CPow fun i j => .int (i ^ j.toNat)) := opI fun _ _ _ _ _ _ _ hc q => pow_int_small hc.1 hc.2.1 hc.2.2 q
theorem op_shr : OpR X (binaryOp .RShift) (rI (fun _ j => 0 ≤ j) fun i j => .int (i / 2 ^ j.toNat)) := opI fun i j _ _ _ _ _ hc q =>
  rshift_int hc (by rw [Int.fdiv_eq_ediv_of_nonneg i (two_pow_nn _)]; exact q)
theorem unI {f : Value → Sem Value} {g : Int → Int}
    (rule : ∀ (i : Int) (t : Tok) (s : Shared) (Q : Value → Shared → Prop) (E : Value → Shared → Prop), Q (.int (g i) s.toks) { s with toks := s.toks + 1 } → wpAny (model X.prog X.w) X.A (f (.int i t)) Q E s) :
    UnR X f (rU fun i => .int (g i)) := by
  intro pins s σ H x v Q I rx h
  obtain ⟨i, rfl, q⟩ := h
  obtain ⟨t, rfl⟩ := rx
  exact rule i t s _ _ ⟨.int (g i), H, I.tok _, ⟨_, rfl⟩, q⟩
theorem un_neg : UnR X (unaryOp .USub) (rU fun i => .int (-i)) := unI fun _ _ _ _ _ q => neg_int q
/-! ### bools among ints: n += (a < b) -/
end

/-! ### comparisons -/
def scal : V → V → Bool
  | .non, .non => true | .non, .int _ => true | .int _, .non => true | .non, .bl _ => true | .bl _, .non => true | .non, .str _ => true | .str _, .non => true
  | .int _, .int _ => true | .bl _, .bl _ => true | .str _, .str _ => true | .byt _, .byt _ => true
  | .int _, .str _ => true | .str _, .int _ => true | .bl _, .str _ => true | .str _, .bl _ => true
  | _, _ => false
def rEq : R2 := fun x y H Q => scal x y = true ∧ Q (.bl (decide (x = y))) H
def rNe : R2 := fun x y H Q => scal x y = true ∧ Q (.bl (!decide (x = y))) H

theorem dec_int {i j : Int} : decide (V.int i = V.int j) = (i == j) := by
  rw [Bool.eq_iff_iff]
  simp
theorem dec_bl {i j : Bool} : decide (V.bl i = V.bl j) = (i == j) := by
  rw [Bool.eq_iff_iff]
  simp
theorem dec_str {i j : Str} : decide (V.str i = V.str j) = (i == j) := by
  rw [Bool.eq_iff_iff]
  simp
theorem dec_byt {i j : Array UInt8} : decide (V.byt i = V.byt j) = (i.toList == j.toList) := by
  rw [Bool.eq_iff_iff]
  cases i
  cases j
  simp

section
variable {X : Cx} {a b c : Expr} {ta tb tc : TE} {pos : Pos}
theorem fin_bl {pins : List (Addr × Obj)} {σ : St} {H : Hp} {s : Shared} {Q : VK} {k k' : Bool} (I : Inv X pins σ H s) (q : Q (.bl k) H) (e : k = k') : EP X pins σ Q (.bool k') s := by
  subst e
  exact ⟨.bl k, H, I, rfl, q⟩
theorem op_eq : OpR X (compareOp .Eq) rEq := by
  intro pins s σ H x y v u Q I rx ry h
  obtain ⟨hs, q⟩ := h
  cases x with
  | non =>
    cases rx
    cases y with
    | non => cases ry; exact PySem.EqNone.eq_none_none (fin_bl I q (by simp))
    | bl j => cases ry; exact PySem.EqNone.eq_none_bool (fin_bl I q (by simp))
    | int j => obtain ⟨t', rfl⟩ := ry; exact PySem.EqNone.eq_none_int (fin_bl I q (by simp))
    | str j => obtain ⟨t', rfl⟩ := ry; exact PySem.EqNone.eq_none_str (fin_bl I q (by simp))
    | _ => exact absurd (show false = true from hs) Bool.false_ne_true
  | bl i =>
    cases rx
    cases y with
    | non => cases ry; exact PySem.EqNone.eq_bool_none (fin_bl I q (by simp))
    | bl j => cases ry; exact eq_bool (fin_bl I q dec_bl)
    | str j => obtain ⟨t', rfl⟩ := ry; exact PySem.EqMixed.eq_bool_str (fin_bl I q (by simp))
    | _ => exact absurd (show false = true from hs) Bool.false_ne_true
  | int i =>
    obtain ⟨t, rfl⟩ := rx
    cases y with
    | non => cases ry; exact PySem.EqNone.eq_int_none (fin_bl I q (by simp))
    | int j => obtain ⟨t', rfl⟩ := ry; exact eq_int (fin_bl I q dec_int)
    | str j => obtain ⟨t', rfl⟩ := ry; exact PySem.EqMixed.eq_int_str (fin_bl I q (by simp))
    | _ => exact absurd (show false = true from hs) Bool.false_ne_true
  | str i =>
    obtain ⟨t, rfl⟩ := rx
    cases y with
    | non => cases ry; exact PySem.EqNone.eq_str_none (fin_bl I q (by simp))
    | bl j => cases ry; exact PySem.EqMixed.eq_str_bool (fin_bl I q (by simp))
    | int j => obtain ⟨t', rfl⟩ := ry; exact PySem.EqMixed.eq_str_int (fin_bl I q (by simp))
    | str j => obtain ⟨t', rfl⟩ := ry; exact eq_str (fin_bl I q dec_str)
    | _ => exact absurd (show false = true from hs) Bool.false_ne_true
  | byt i =>
    obtain ⟨t, rfl⟩ := rx
    cases y with
    | byt j => obtain ⟨t', rfl⟩ := ry; exact PySem.W.eq_bytes (fin_bl I q dec_byt)
    | _ => exact absurd (show false = true from hs) Bool.false_ne_true
  | _ => cases y <;> exact absurd (show false = true from hs) Bool.false_ne_true
theorem op_ne : OpR X (compareOp .NotEq) rNe := by
  intro pins s σ H x y v u Q I rx ry h
  obtain ⟨hs, q⟩ := h
  cases x with
  | non =>
    cases rx
    cases y with
    | non => cases ry; exact PySem.EqNone.ne_none_none (fin_bl I q (by simp))
    | bl j => cases ry; exact PySem.EqNone.ne_none_bool (fin_bl I q (by simp))
    | int j => obtain ⟨t', rfl⟩ := ry; exact PySem.EqNone.ne_none_int (fin_bl I q (by simp))
    | str j => obtain ⟨t', rfl⟩ := ry; exact PySem.EqNone.ne_none_str (fin_bl I q (by simp))
    | _ => exact absurd (show false = true from hs) Bool.false_ne_true
  | bl i =>
    cases rx
    cases y with
    | non => cases ry; exact PySem.EqNone.ne_bool_none (fin_bl I q (by simp))
    | bl j => cases ry; exact ne_bool (fin_bl I q (congrArg not dec_bl))
    | str j => obtain ⟨t', rfl⟩ := ry; exact PySem.EqMixed.ne_bool_str (fin_bl I q (by simp))
    | _ => exact absurd (show false = true from hs) Bool.false_ne_true
  | int i =>
    obtain ⟨t, rfl⟩ := rx
    cases y with
    | non => cases ry; exact PySem.EqNone.ne_int_none (fin_bl I q (by simp))
    | int j => obtain ⟨t', rfl⟩ := ry; exact ne_int (fin_bl I q (congrArg not dec_int))
    | str j => obtain ⟨t', rfl⟩ := ry; exact PySem.EqMixed.ne_int_str (fin_bl I q (by simp))
    | _ => exact absurd (show false = true from hs) Bool.false_ne_true
  | str i =>
    obtain ⟨t, rfl⟩ := rx
    cases y with
    | non => cases ry; exact PySem.EqNone.ne_str_none (fin_bl I q (by simp))
    | bl j => cases ry; exact PySem.EqMixed.ne_str_bool (fin_bl I q (by simp))
    | int j => obtain ⟨t', rfl⟩ := ry; exact PySem.EqMixed.ne_str_int (fin_bl I q (by simp))
    | str j => obtain ⟨t', rfl⟩ := ry; exact ne_str (fin_bl I q (congrArg not dec_str))
    | _ => exact absurd (show false = true from hs) Bool.false_ne_true
  | byt i =>
    obtain ⟨t, rfl⟩ := rx
    cases y with
    | byt j => obtain ⟨t', rfl⟩ := ry; exact PySem.W.ne_bytes (fin_bl I q (congrArg not dec_byt))
    | _ => exact absurd (show false = true from hs) Bool.false_ne_true
  | _ => cases y <;> exact absurd (show false = true from hs) Bool.false_ne_true

theorem op_lt : OpR X (compareOp .Lt) (rI0 fun i j => .bl (decide (i < j))) := opB0 fun _ _ _ _ _ _ _ q => lt_int q
theorem op_le : OpR X (compareOp .LtE) (rI0 fun i j => .bl (decide (i ≤ j))) := opB0 fun _ _ _ _ _ _ _ q => le_int q
theorem op_gt : OpR X (compareOp .Gt) (rI0 fun i j => .bl (decide (j < i))) := opB0 fun _ _ _ _ _ _ _ q => gt_int q
theorem op_ge : OpR X (compareOp .GtE) (rI0 fun i j => .bl (decide (j ≤ i))) := opB0 fun _ _ _ _ _ _ _ q => ge_int q
theorem op_isN : OpR X (compareOp .Is) (fun x y H Q => y = .non ∧ Q (.bl (decide (x = .non))) H) := by
  intro pins s σ H x y v u Q I rx ry h
  obtain ⟨rfl, q⟩ := h
  cases ry
  refine is_none_gen (fin_bl I q ?_)
  cases x <;> first
    | (cases rx; rfl)
    | (obtain ⟨t, rfl⟩ := rx; rfl)
theorem nomark (b : Expr) {op : CmpOp} (h : op ≠ .In := by decide) (h2 : op ≠ .NotIn := by decide) : behindInMarks op b = false := by
  have e1 : (op == CmpOp.In) = false := by cases op <;> first | rfl | exact absurd rfl h
  have e2 : (op == CmpOp.NotIn) = false := by cases op <;> first | rfl | exact absurd rfl h2
  cases b <;> simp [behindInMarks, e1, e2]
theorem pe_cmpR {op : CmpOp} {r : R2} (ho : OpR X (compareOp op) r) (ha : PE X a ta) (hb : PE X b tb) (hm : behindInMarks op b = false) : PE X (.Compare a [op] [b] pos) (tOp r ta tb) := by
  with_unfolding_all
    intro pins s σ H Q I h
    exact wpAny_Compare1 (binT ha hb I h fun v u s2 x y H2 I2 rx ry q => ho pins s2 σ H2 x y v u Q I2 rx ry q) hm
def tTest (t : TE) : TT := fun σ H Q => t σ H fun x H' => ∃ k, x = .bl k ∧ Q k H'
theorem pt_cmpR {op : CmpOp} {r : R2} (ho : OpR X (compareOp op) r) (ha : PE X a ta) (hb : PE X b tb) (hm : behindInMarks op b = false) : PT X (.Compare a [op] [b] pos) (tTest (tOp r ta tb)) := by
  with_unfolding_all
    intro pins s σ H Q I h
    refine wpAny_isTrue_Compare1 (thn (ha pins s σ H _ I h) fun v s1 ⟨x, H1, I1, r1, q1⟩ => thn (hb pins s1 σ H1 _ I1 q1) fun u s2 ⟨y, H2, I2, r2, q2⟩ =>
      thn (ho pins s2 σ H2 x y v u _ I2 r1 r2 q2) fun c s3 ⟨z, H3, I3, r3, k, e, q3⟩ => ?_) hm
    subst e
    cases r3
    exact wpAny_truthy_bool ⟨H3, I3, q3⟩
def tChain (r r' : R2) (ta tb tc : TE) : TE := fun σ H Q => ta σ H fun x H1 => tb σ H1 fun y H2 => r x y H2 fun z H3 => ∃ k, z = .bl k ∧
  (if k = true then tc σ H3 fun w' H4 => r' y w' H4 Q else Q (.bl false) H3)
theorem pe_chain {op op' : CmpOp} {r r' : R2} (ho : OpR X (compareOp op) r) (ho' : OpR X (compareOp op') r') (ha : PE X a ta) (hb : PE X b tb) (hc : PE X c tc)
    (hm : lastMarks [op, op'] [b, c] = false := by with_unfolding_all rfl) : PE X (.Compare a [op, op'] [b, c] pos) (tChain r r' ta tb tc) := by
  with_unfolding_all
    intro pins s σ H Q I h
    refine Compare_chain (thn (ha pins s σ H _ I h) fun v s1 ⟨x, H1, I1, r1, q1⟩ => chain_link (thn (hb pins s1 σ H1 _ I1 q1) fun u s2 ⟨y, H2, I2, r2, q2⟩ =>
      thn (ho pins s2 σ H2 x y v u _ I2 r1 r2 q2) fun d s3 ⟨z, H3, I3, r3, k, e, q3⟩ => ?_)) hm
    subst e
    cases r3
    refine wpAny_truthy_bool ?_
    cases k with
    | false => exact ite_ff ⟨.bl false, H3, I3, rfl, q3⟩
    | true => exact ite_tt (chain_last (thn (hc pins s3 σ H3 _ I3 q3) fun w' s4 ⟨z', H4, I4, r4, q4⟩ => ho' pins s4 σ H4 y z' u w' Q I4 r2 r4 q4))
/-! ### truth -/
theorem line63 : (sizeLine : Nat) < 2 ^ 63 := by rw [sizeLine_eq]; decide
/-! ### strs and bytes -/
/-! ### scalar builtins, by CallR -/
theorem vals1 {x : V} {us : List Value} (r : Vals [x] us) : ∃ u, us = [u] ∧ RelV x u := by
  cases r with
  | cons r1 r2 => cases r2; exact ⟨_, rfl, r1⟩
theorem vals2 {x y : V} {us : List Value} (r : Vals [x, y] us) : ∃ u w', us = [u, w'] ∧ RelV x u ∧ RelV y w' := by
  cases r with
  | cons r1 r2 =>
    cases r2 with
    | cons r3 r4 => cases r4; exact ⟨_, _, rfl, r1, r3⟩
theorem call_max2 (hc : X.calm = true) : CallR X (.builtin "max") (fun xs H Q => ∃ i j, xs = [.int i, .int j] ∧ Q (.int (if j > i then j else i)) H) := by
  intro pins s σ H xs us Q I r h
  obtain ⟨i, j, rfl, q⟩ := h
  obtain ⟨u, w', rfl, ⟨t, rfl⟩, ⟨t', rfl⟩⟩ := vals2 r
  refine max_two_ints (I.ok.hd hc) fun h' tk k => ⟨_, H, I.kept k, ?_, q⟩
  by_cases hj : j > i
  · rw [if_pos hj, if_pos hj]; exact ⟨_, rfl⟩
  · rw [if_neg hj, if_neg hj]; exact ⟨_, rfl⟩
theorem call_min2 (hc : X.calm = true) : CallR X (.builtin "min") (fun xs H Q => ∃ i j, xs = [.int i, .int j] ∧ Q (.int (if j < i then j else i)) H) := by
  intro pins s σ H xs us Q I r h
  obtain ⟨i, j, rfl, q⟩ := h
  obtain ⟨u, w', rfl, ⟨t, rfl⟩, ⟨t', rfl⟩⟩ := vals2 r
  refine min_two_ints (I.ok.hd hc) fun h' tk k => ⟨_, H, I.kept k, ?_, q⟩
  by_cases hj : j < i
  · rw [if_pos hj, if_pos hj]; exact ⟨_, rfl⟩
  · rw [if_neg hj, if_neg hj]; exact ⟨_, rfl⟩
theorem call_int1 : CallR X (.type "int") (fun xs H Q => (∃ i, xs = [.int i] ∧ Q (.int i) H) ∨ ∃ k, xs = [.bl k] ∧ Q (.int (if k then 1 else 0)) H) := by
  intro pins s σ H xs us Q I r h
  rcases h with ⟨i, rfl, q⟩ | ⟨k, rfl, q⟩
  · obtain ⟨u, rfl, t, rfl⟩ := vals1 r
    exact call_int_int ⟨.int i, H, I, ⟨_, rfl⟩, q⟩
  · obtain ⟨u, rfl, r1⟩ := vals1 r
    cases r1
    exact call_int_bool ⟨.int (if k then 1 else 0), H, I.tok _, ⟨_, rfl⟩, q⟩
end
end L2

namespace L2
open PySem PySem.Spec PyProof.Rows

/-! ### an instance, its attributes a map -/
structure ObjM (h : Heap) (x dx C : Addr) (mA : Str → Option Value) : Prop where
  obj : h.get? x = some (PySem.W.instObj C dx)
  ns : h.Ns1 dx mA
  ne : dx ≠ x

theorem lookIn_ns {h : Heap} {dx : Addr} {mA : Str → Option Value} (n : h.Ns1 dx mA) : ∃ od, h.get? dx = some od ∧ ∀ name, PySem.W.lookIn name od = some (mA name) := by
  obtain ⟨o, es, ep, ho, hd, hk, _, hm⟩ := n
  refine ⟨o, ho, fun name => ?_⟩
  have e := hm name
  unfold nsFind findBy at e
  rw [← Array.find?_toList] at e
  unfold PySem.W.lookIn
  rw [hd]
  dsimp only
  split
  · rename_i y q
    rw [q] at e
    exact congrArg some e
  · rename_i q
    rw [q] at e
    have a : es.toList.any (·.refKey) = false := by
      rw [List.any_eq_false]
      intro y hy
      obtain ⟨z, t, hkey⟩ := hk y (Array.mem_toList_iff.mp hy)
      simp [DictEntry.refKey, hkey]
    have a' : ¬ es.toList.any (·.refKey) = true := by rw [a]; exact Bool.false_ne_true
    rw [if_neg a']
    exact congrArg some e

theorem ObjM.look {h : Heap} {x dx C : Addr} {mA : Str → Option Value} (I : ObjM h x dx C mA) : ∃ od, PySem.W.InstAt h x (PySem.W.instObj C dx) C (some od) ∧ ∀ name, PySem.W.lookIn name od = some (mA name) :=
  let ⟨od, ho, hl⟩ := lookIn_ns I.ns
  ⟨od, ⟨I.obj, rfl, rfl, ho⟩, hl⟩

section
variable {prog : Program} {w : World} {A : Around} {E : Value → Shared → Prop} {s : Shared} {K : PySem.W.Frag} {x dx C f : Addr} {mA : Str → Option Value} {name : Str} {v : Value}

end

/-! ### the attributes as a list of pairs -/
theorem RelO.some_of {v : V} {o : Option Value} (r : RelO (some v) o) : ∃ u, o = some u ∧ RelV v u := by
  cases o with
  | none => exact (show False from r).elim
  | some u => exact ⟨u, rfl, r⟩
section
variable {P : Program} {w : World} {H H' : Hp} {h h' : Heap} {a C dx : Addr} {fs fs' : List (Str × V)}
theorem ins_get (hok : HOk P w H h) (e : H a = some (.ins C dx fs)) : ∃ mA, ObjM h a dx C mA ∧ (∀ f, RelO (fs.lookup f) (mA f)) ∧ PySem.Within mA (fs.map (·.1)) ∧ fs.length ≤ 1000 ∧ H dx = some (.own a) := by
  obtain ⟨d, z, ne, ob, mA, n, r, q⟩ := (show ObjOk P w H h a (.ins C dx fs) from hok a _ e)
  exact ⟨mA, ⟨ob, n, ne⟩, r, q, z, d⟩
end

/-! ### what of the text a class must have -/
structure Cls (K : PySem.W.Frag) (C : Addr) : Prop where
  pg : PySem.W.plainGet K C Str.empty = true
  hd : PySem.W.hasDictIn K C = true
  po : PySem.W.plainOver K C = true
  sa : PySem.W.findIn K (.ref C) "__setattr__" = some (some (.builtin "object.__setattr__"))
theorem Cls.get {K : PySem.W.Frag} {C : Addr} (c : Cls K C) (f : Str) : PySem.W.plainGet K C f = true := c.pg
def NoAttr (K : PySem.W.Frag) (C : Addr) (f : Str) : Prop := PySem.W.findIn K (.ref C) f = some none
structure Con (K : PySem.W.Frag) (C : Addr) (f : Str) (v : V) (u : Value) : Prop where
  at_ : PySem.W.findIn K (.ref C) f = some (some u)
  rel : RelV v u
  get : PySem.W.specialIn K u "__get__" = some none
  cp : PySem.W.copiedNames.contains f = false
structure Meth (K : PySem.W.Frag) (C : Addr) (m : Str) (f : Addr) : Prop where
  at_ : PySem.W.findIn K (.ref C) m = some (some (.ref f))
  fn : PySem.W.isFn K (.ref f) = true
  kp : PySem.W.keepIn K (.ref f) = true

section
variable {X : Cx} {pins : List (Addr × Obj)} {σ : St} {H : Hp} {s : Shared} {a C dx : Addr} {fs : List (Str × V)} {f : Str} {v : V} {A : Around} {E : Value → Shared → Prop}

end

/-! ### readings and rules -/
section
variable {X : Cx} {o e value : Expr} {f : Str} {pos pos' tpos : Pos} {ta tv : TE}
end

/-! ### isinstance -/
section
variable {X : Cx} {pins : List (Addr × Obj)} {σ : St} {H : Hp} {s : Shared} {A : Around} {E : Value → Shared → Prop} {Q : Value → Shared → Prop} {c : Value} {b : Bool}
inductive TyOf (K : PySem.W.Frag) (H : Hp) : V → Value → Prop where
  | non : TyOf K H .non (.type "NoneType")
  | bl (x : Bool) : TyOf K H (.bl x) (.type "bool")
  | int (i : Int) : TyOf K H (.int i) (.type "int")
  | str (x : Str) : TyOf K H (.str x) (.type "str")
  | flt (x : UInt64) : TyOf K H (.flt x) (.type "float")
  | lst {a : Addr} {xs : List V} (e : H a = some (.lst xs)) : TyOf K H (.ref a) (.type "list")
  | frz {a : Addr} {o : Obj} {xs : List V} (e : H a = some (.frz o (.lst xs))) : TyOf K H (.ref a) (.type "list")
  | tup {a : Addr} {xs : List V} (e : H a = some (.tup xs)) : TyOf K H (.ref a) (.type "tuple")
  | dK {a : Addr} {kvs : List (Key × V)} (e : H a = some (.dK kvs)) : TyOf K H (.ref a) (.type "dict")
  | dT {a : Addr} {kvs : List (List Key × V)} (e : H a = some (.dT kvs)) : TyOf K H (.ref a) (.type "dict")
  | ins {a C dx : Addr} {fs : List (Str × V)} (e : H a = some (.ins C dx fs)) (cl : Cls K C) (ha : PySem.W.findIn K (.ref C) "__class__" = some (some (.builtin "object.__class__")))
      (hn : PySem.W.specialIn K (.builtin "object.__class__") "__get__" = some (some (.builtin "getset_descriptor.__get__"))) (htk : PySem.W.takesIn K (.builtin "object.__class__") = some true)
      (hm : PySem.W.mroIn K C (.type "object") = some true) : TyOf K H (.ref a) (.ref C)
theorem isinst_ok {x : V} {u t : Value} (I : Inv X pins σ H s) (rx : RelV x u) (ty : TyOf X.K H x t) (e : PySem.W.kitOne X.K t c = some b) (h : ∀ tk, Q (.bool b) { s with toks := tk }) :
    wpAny (model X.prog X.w) A (call (.builtin "isinstance") [u, c]) Q E s := by
  cases ty with
  | non => cases (show u = Value.none from rx); exact PySem.W.kia_one PySem.W.kitx_none I.kIn True.intro e (fun z => nomatch z) h
  | bl y => cases (show u = Value.bool y from rx); exact PySem.W.kia_one PySem.W.kitx_bool I.kIn True.intro e (fun z => nomatch z) h
  | int i => obtain ⟨t, q⟩ := (show ∃ t, u = Value.int i t from rx); cases q; exact PySem.W.kia_one PySem.W.kitx_int I.kIn True.intro e (fun z => nomatch z) h
  | str y => obtain ⟨t, q⟩ := (show ∃ t, u = Value.str y t from rx); cases q; exact PySem.W.kia_one PySem.W.kitx_str I.kIn True.intro e (fun z => nomatch z) h
  | flt y => obtain ⟨t, q⟩ := (show ∃ t, u = Value.float y t from rx); cases q; exact PySem.W.kia_one PySem.W.kitx_float I.kIn True.intro e (fun z => nomatch z) h
  | @lst a xs ea =>
    cases (show u = Value.ref a from rx)
    obtain ⟨_, _, n, _, h1⟩ := (show ObjOk X.prog X.w H s.heap a (.lst xs) from I.hok a _ ea)
    exact PySem.W.kia_one PySem.W.kitx_list I.kIn ⟨_, h1, rfl⟩ e (fun z => nomatch z) h
  | @frz a ob xs ea =>
    cases (show u = Value.ref a from rx)
    obtain ⟨_, _, _, n, _, h1⟩ := (show ObjOk X.prog X.w H s.heap a (.frz ob (.lst xs)) from I.hok a _ ea)
    exact PySem.W.kia_one PySem.W.kitx_list I.kIn ⟨_, h1, rfl⟩ e (fun z => nomatch z) h
  | @tup a xs ea =>
    cases (show u = Value.ref a from rx)
    obtain ⟨_, _, _, p⟩ := (show ObjOk X.prog X.w H s.heap a (.tup xs) from I.hok a _ ea)
    obtain ⟨o, h1, h2, _⟩ := p
    exact PySem.W.kia_one PySem.W.kitx_tuple I.kIn ⟨o, h1, h2⟩ e (fun z => nomatch z) h
  | @dK a kvs ea =>
    cases (show u = Value.ref a from rx)
    obtain ⟨_, _, vs, _, p⟩ := (show ObjOk X.prog X.w H s.heap a (.dK kvs) from I.hok a _ ea)
    obtain ⟨o, es, ep, h1, h2, _⟩ := p
    exact PySem.W.kia_one PySem.W.kitx_dict I.kIn ⟨o, h1, h2.1⟩ e (fun z => nomatch z) h
  | @dT a kvs ea =>
    cases (show u = Value.ref a from rx)
    obtain ⟨_, _, xs, _, o, es, ep, h1, h2, _⟩ := (show ObjOk X.prog X.w H s.heap a (.dT kvs) from I.hok a _ ea)
    exact PySem.W.kia_one PySem.W.kitx_dict I.kIn ⟨o, h1, h2.1⟩ e (fun z => nomatch z) h
  | @ins a C dx fs ea cl ha hn htk hm =>
    cases (show u = Value.ref a from rx)
    obtain ⟨mA, O, _⟩ := ins_get I.hok ea
    obtain ⟨od, J, _⟩ := O.look
    exact PySem.W.kia_one (PySem.W.kitx_own (cl.get _) cl.hd ha hn htk hm) I.kIn J e (fun z => nomatch z) h
end
end L2

namespace L2
open PySem PySem.Spec PyProof.Rows

/-! ### room -/
structure Room (k : Nat) (A : Around) : Prop where
  hd : A.handled = none
  dp : A.depth + 3 * k + 5 < recursionLimit
  un : A.units + 16 * k + 200 < cLine
  gd : A.guards = some []
theorem Room.mono {j k : Nat} {A : Around} (r : Room k A) (h : j ≤ k) : Room j A := ⟨r.hd, by have := r.dp; omega, by have := r.un; omega, r.gd⟩
theorem Room.deeper {k : Nat} {A : Around} (r : Room (k + 1) A) (env : Env) : Room k (A.deeper env) :=
  ⟨r.hd, by have := r.dp; show A.depth + 1 + 3 * k + 5 < _; omega, by have := r.un; show A.units + 3 + 16 * k + 200 < _; omega, r.gd⟩
theorem Room.in1 {k : Nat} {A : Around} (r : Room (k + 1) A) : Room k A.in1 :=
  ⟨r.hd, by have := r.dp; show A.depth + 3 * k + 5 < _; omega, by have := r.un; show A.units + 1 + 16 * k + 200 < _; omega, r.gd⟩
theorem Room.depth {k : Nat} {A : Around} (r : Room k A) : A.depth < recursionLimit := by have := r.dp; omega
theorem Room.units0 {k : Nat} {A : Around} (r : Room k A) : A.units < cLine := by have := r.un; omega

/-! ### argument lists and displays -/
def tNil : TA := fun _ H Q => Q [] H
def tCons (ta : TE) (tr : TA) : TA := fun σ H Q => ta σ H fun x H1 => tr σ H1 fun xs H2 => Q (x :: xs) H2
section
variable {X : Cx} {e : Expr} {es : List Expr} {te : TE} {t : TA} {pos : Pos}
theorem pa_nil : PA X [] tNil := by
  with_unfolding_all
    exact fun _ _ _ _ H Q I h => Calls.spliced_nil ⟨[], H, I, .nil, h⟩
theorem pa_cons (ha : PE X e te) (hr : PA X es t) (hs : starEach (e :: es) X.env = (false, eval e X.env) :: starEach es X.env := by rfl) : PA X (e :: es) (tCons te t) := by
  with_unfolding_all
    intro pos pins s σ H Q I h
    rw [hs]
    show wpAny _ _ (spliced ((false, eval e X.env) :: backTo pos (starEach es X.env))) _ _ s
    refine Calls.spliced_cons (thn (ha pins s σ H _ I h) fun u s1 ⟨x, H1, I1, r1, q1⟩ => ?_)
    exact thn (hr pos pins s1 σ H1 _ I1 q1) fun us s2 ⟨xs, H2, I2, r2, q2⟩ => ⟨x :: xs, H2, I2, .cons r1 r2, q2⟩

end

/-! ### what a def promises -/
abbrev Sp := List V → Hp → VK → XK → Prop
abbrev CXT := List Env → Hp → Shared → XK → Value → Shared → Prop

structure Env0 (P : Program) (w : World) (K : PySem.W.Frag) (mg : Str → Option Value) (base : Heap) (A : Around) (outer : List Env) (s : Shared) (H : Hp) : Prop where
  frames : A.frames = some outer
  mod : Mod K mg base
  bs : ∀ b o, base.get? b = some o → s.heap.get? b = some o ∧ H b = none
  bsz : base.objs.size ≤ s.heap.objs.size
  funs : s.heap.FunFrames base outer
  frf : ∀ b ∈ frs outer, H b = none
  hok : HOk P w H s.heap
  bare : AllBare s.gens
def CE (outer : List Env) (P : Program) (w : World) (H : Hp) (s : Shared) (Q : VK) (u : Value) (s' : Shared) : Prop :=
  ∃ v H', s'.os = s.os ∧ AllBare s'.gens ∧ Un (frs outer) [] H H' s.heap s'.heap ∧ HOk P w H' s'.heap ∧ RelV v u ∧ Q v H'
def CR (CX : CXT) (outer : List Env) (P : Program) (w : World) (H : Hp) (s : Shared) (Q : VK) (E : XK) (r : Result) (s' : Shared) : Prop :=
  match r with
  | .ok (.ret u) => CE outer P w H s Q u s'
  | .ok _ => False
  | .error e => CX outer H s E e s'
structure FnOk (P : Program) (w : World) (K : PySem.W.Frag) (mg : Str → Option Value) (base : Heap) (CX : CXT) (k : Nat) (f : Addr) (fd : FuncData) (ps : List Str) (sp : Sp) : Prop where
  len : ∀ vs H Q E, sp vs H Q E → vs.length = ps.length
  run : ∀ (A : Around) (outer : List Env) (s : Shared) (H : Hp) (args : Args) (us : List Value) (vs : List V) (Q : VK) (E : XK), Room k A → Env0 P w K mg base A outer s H → BindsTo s fd args (ps.zip us) → Vals vs us → sp vs H Q E →
    codeAny (model P w) A (.call (.ref f) args) (CR CX outer P w H s Q E) s
section
variable {X : Cx} {pins : List (Addr × Obj)} {σ : St} {H : Hp} {s s' : Shared}
theorem Inv.env0 (I : Inv X pins σ H s) : Env0 X.prog X.w X.K X.mg X.base X.A X.stack s H :=
  ⟨I.ok.frames, I.ok.mod, I.bs, Nat.le_trans I.ok.bsz I.sz, I.stack, I.stkFree, I.hok, I.bare⟩
theorem Inv.after {Q : VK} {u : Value} (I : Inv X pins σ H s) (h : CE X.stack X.prog X.w H s Q u s') : EP X pins σ Q u s' := by
  obtain ⟨v, H', os, bare, un, hok, r, q⟩ := h
  obtain ⟨hh, g, d, t, os'⟩ := s'
  obtain rfl : os' = s.os := os
  exact ⟨v, H', I.call (h' := hh) (g' := g) (d' := d) (t' := t) (ch := []) un hok bare (fun b z => absurd z (by simp)), r, q⟩
end

/-! ### calls -/
def tCall (sp : Sp) (dvs : List V) (E : XK) (t : TA) : TE := fun σ H Q => t σ H fun vs H1 => sp (vs ++ dvs) H1 Q E
def Binds (K : PySem.W.Frag) (fd : FuncData) (ps : List Str) (ds : List Value) : Prop :=
  ∀ (s : Shared) (us : List Value), K.In s.heap → (us ++ ds).length = ps.length → BindsTo s fd ⟨us, []⟩ (ps.zip (us ++ ds))
theorem Binds.all {K : PySem.W.Frag} {fd : FuncData} {ps : List Str} (h : ∀ us : List Value, us.length = ps.length → bindArgs fd ⟨us, []⟩ = pure (ps.zip us)) : Binds K fd ps [] := fun s us _ hl => by
  rw [List.append_nil] at hl ⊢
  exact .of_eq (h us hl)

def Passes (CX : CXT) (X : Cx) (E : XK) : Prop := ∀ (pins : List (Addr × Obj)) (σ : St) (H : Hp) (s : Shared) (e : Value) (s' : Shared), Inv X pins σ H s → CX X.stack H s E e s' → X.xe e s'

section
variable {X : Cx} {CX : CXT} {k : Nat} {f C : Addr} {fd : FuncData} {ps : List Str} {sp : Sp} {dvs : List V} {ds : List Value} {E : XK} {x m : Str} {p pos apos : Pos} {e o : Expr} {es : List Expr} {ta : TE} {t : TA}

theorem run_fn {pins : List (Addr × Obj)} {σ : St} {H : Hp} {s : Shared} {Q : VK} {us : List Value} {vs : List V} (F : FnOk X.prog X.w X.K X.mg X.base CX k f fd ps sp) (hr : Room k X.A) (hb : Binds X.K fd ps ds) (hd : Vals dvs ds) (hx : Passes CX X E)
    (I : Inv X pins σ H s) (r : Vals vs us) (h : sp (vs ++ dvs) H Q E) : wpAny (model X.prog X.w) X.A (call (.ref f) us) (EP X pins σ Q) X.xe s := by
  have r2 : Vals (vs ++ dvs) (us ++ ds) := r.append hd
  have hl : (us ++ ds).length = ps.length := by rw [← r2.length]; exact F.len _ _ _ _ h
  refine wpAny_call (codeAny_mono (F.run X.A X.stack s H ⟨us, []⟩ (us ++ ds) (vs ++ dvs) Q E hr I.env0 (hb s us I.kIn hl) r2 h) fun r s' hq => ?_)
  cases r with
  | error e => exact hx pins σ H s e s' I hq
  | ok fl =>
    cases fl with
    | ret u => exact I.after hq
    | next => exact False.elim hq
    | brk => exact False.elim hq
    | cont => exact False.elim hq

theorem pe_call (F : FnOk X.prog X.w X.K X.mg X.base CX k f fd ps sp) (hr : Room k X.A) (hg : Gl X x) (hm : X.mg x = some (.ref f)) (hk : PySem.W.keepIn X.K (.ref f) = true) (hb : Binds X.K fd ps ds) (hd : Vals dvs ds) (hx : Passes CX X E)
    (ha : PA X (e :: es) t) (hdb : (x == ("__debug__" : Str)) = false := by decide) (he : starEach (e :: es) X.env = (false, eval e X.env) :: starEach es X.env := by rfl) (hpl : (backTo pos (starEach es X.env)).any (·.1) = false := by rfl) :
    PE X (.Call (.Name x p) (e :: es) [] pos) (tCall sp dvs E t) := by
  with_unfolding_all
    intro pins s σ H Q I h
    refine wpAny_Call_Name_kw (ld_glob I hg hm ?_ hdb)
    refine PySem.W.callWith_K (h₀ := X.base) I.ok.mod.kin hk (thn (ha pos pins s σ H _ I h) fun us s1 ⟨vs, H1, I1, r, q⟩ => ⟨I1.kIn, ?_⟩) he hpl
    exact run_fn F hr hb hd hx I1 r q
structure Mk (K : PySem.W.Frag) (C f : Addr) : Prop where
  makes : PySem.W.makesIn K C = true
  init : PySem.W.findIn K (.ref C) "__init__" = some (some (.ref f))
  fn : PySem.W.isFn K (.ref f) = true
  kp : PySem.W.keepIn K (.ref C) = true

end

/-! ### keywords -/
section
variable {X : Cx} {CX : CXT} {k : Nat} {f C : Addr} {fd : FuncData} {ps ks : List Str} {sp : Sp} {E : XK} {x m : Str} {p pos apos kpos : Pos} {e o : Expr} {es : List Expr} {kws : List Keyword} {te ta : TE} {t tk : TA} {nm : Option Str}
structure KBinds (K : PySem.W.Frag) (fd : FuncData) (ps ks : List Str) (g : List Value → List Value → List Value) (gV : List V → List V → List V) : Prop where
  to : ∀ (s : Shared) (us ws : List Value), K.In s.heap → (g us ws).length = ps.length → BindsTo s fd ⟨us, ks.zip ws⟩ (ps.zip (g us ws))
  rel : ∀ {vs : List V} {us : List Value} {zs : List V} {ws : List Value}, Vals vs us → Vals zs ws → Vals (gV vs zs) (g us ws)
variable {g : List Value → List Value → List Value} {gV : List V → List V → List V}
end

/-! ### a def's body keeps its promise -/
structure FnScope (N P : List Str) (sc : Scope) : Prop where
  kind : sc.kind = .function
  co : sc.isCoroutine = false
  gen : sc.isGenerator = false
  nd : N.Nodup
  pre : N.take P.length = P
  par : ∀ x ∈ P, sc.names.lookup x = some .local ∨ sc.names.lookup x = some .cell
  nofree : ∀ y ∈ sc.names, y.2 ≠ .free

theorem bindL_out {kindOf : Str → Option NameKind} {x : Str} : ∀ {binds : List (Str × Value)} {m : Str → Option Value}, (∀ v, (x, v) ∉ binds) → bindL kindOf binds m x = m x
  | [], _, _ => rfl
  | (n, v) :: r, m, h => by
    unfold bindL
    rw [bindL_out fun w hw => h w (List.mem_cons_of_mem _ hw)]
    split
    · have : x ≠ n := by rintro rfl; exact h v List.mem_cons_self
      simp [this]
    · rfl
theorem bindC_out {kindOf : Str → Option NameKind} {x : Str} : ∀ {binds : List (Str × Value)} {m : Str → Option Value}, (∀ v, (x, v) ∉ binds) → bindC kindOf binds m x = m x
  | [], _, _ => rfl
  | (n, v) :: r, m, h => by
    unfold bindC
    rw [bindC_out fun w hw => h w (List.mem_cons_of_mem _ hw)]
    split
    · rfl
    · have : x ≠ n := by rintro rfl; exact h v List.mem_cons_self
      simp [this]
theorem bindL_get {kindOf : Str → Option NameKind} {x : Str} {v : Value} : ∀ {P : List Str} {vs : List Value} {i : Nat} {m : Str → Option Value}, P.Nodup → P[i]? = some x → vs[i]? = some v → kindOf x = some .local →
    bindL kindOf (P.zip vs) m x = some v
  | [], _, _, _, _, h, _, _ => by simp at h
  | _ :: _, [], _, _, _, _, h, _ => by simp at h
  | p :: P, w :: vs, 0, m, nd, h1, h2, hk => by
    simp at h1 h2; subst h1; subst h2
    show bindL kindOf ((p, w) :: P.zip vs) m p = _
    unfold bindL
    rw [bindL_out fun v hv => (List.nodup_cons.mp nd).1 (List.of_mem_zip hv).1, if_pos hk]
    simp
  | p :: P, w :: vs, i + 1, m, nd, h1, h2, hk => by
    show bindL kindOf ((p, w) :: P.zip vs) m x = _
    unfold bindL
    exact bindL_get (i := i) (List.nodup_cons.mp nd).2 (by simpa using h1) (by simpa using h2) hk
theorem bindC_get {kindOf : Str → Option NameKind} {x : Str} {v : Value} : ∀ {P : List Str} {vs : List Value} {i : Nat} {m : Str → Option Value}, P.Nodup → P[i]? = some x → vs[i]? = some v → kindOf x ≠ some .local →
    bindC kindOf (P.zip vs) m x = some v
  | [], _, _, _, _, h, _, _ => by simp at h
  | _ :: _, [], _, _, _, _, h, _ => by simp at h
  | p :: P, w :: vs, 0, m, nd, h1, h2, hk => by
    simp at h1 h2; subst h1; subst h2
    show bindC kindOf ((p, w) :: P.zip vs) m p = _
    unfold bindC
    rw [bindC_out fun v hv => (List.nodup_cons.mp nd).1 (List.of_mem_zip hv).1, if_neg hk]
    simp
  | p :: P, w :: vs, i + 1, m, nd, h1, h2, hk => by
    show bindC kindOf ((p, w) :: P.zip vs) m x = _
    unfold bindC
    exact bindC_get (i := i) (List.nodup_cons.mp nd).2 (by simpa using h1) (by simpa using h2) hk

def start (N : List Str) (vs : List V) : St := vs.map some ++ List.replicate (N.length - vs.length) none

def cxOf (CX : CXT) (P : Program) (w : World) (K : PySem.W.Frag) (mg : Str → Option Value) (base : Heap) (N : List Str) (qual : Str) (scope : Scope) (f : Addr) (cd : Value) (A : Around) (outer : List Env) (s : Shared) (H : Hp) (E : XK) : Cx where
  prog := P
  w := w
  K := K
  mg := mg
  base := base
  A := A.deeper (envOfC qual scope s.heap.objs.size f cd)
  N := N
  s₀ := s
  H₀ := H
  env := envOfC qual scope s.heap.objs.size f cd
  outer := outer
  stack := envOfC qual scope s.heap.objs.size f cd :: outer
  ex := []
  calm := true
  fn := fun _ => true
  pn := []
  xe := fun e s' => wpAny (model P w) (A.deeper (envOfC qual scope s.heap.objs.size f cd)) (leaving (envOfC qual scope s.heap.objs.size f cd) e) (fun _ s'' => CX outer H s E e s'') (fun e' s'' => CX outer H s E e' s'') s'

theorem cell_has {sc : Scope} {n : Nat} {x : Str} (h : sc.names.lookup x = some .cell) : ∃ c, (cellsFrom n sc.names []).lookup x = some c := by
  have q := PySem.W.cellsFrom_some sc.names n [] (.inl h)
  exact Option.isSome_iff_exists.mp q

theorem inv_start {CX : CXT} {P : Program} {w : World} {K : PySem.W.Frag} {mg : Str → Option Value} {base : Heap} {N ps : List Str} {qual : Str} {scope : Scope} {f : Addr} {cd : Value} {A : Around} {outer : List Env} {s s1 : Shared} {H : Hp} {E : XK} {us : List Value} {vs : List V}
    (S : FnScope N ps scope) (hd : A.handled = none) (e0 : Env0 P w K mg base A outer s H) (hl : vs.length = ps.length) (r : Vals vs us)
    (x : InCallC s s.heap.objs.size (bindL (envOfC qual scope s.heap.objs.size f cd).kindOf (ps.zip us) fun _ => none) (cellsFrom (s.heap.objs.size + 1) scope.names []) (bindC (envOfC qual scope s.heap.objs.size f cd).kindOf (ps.zip us) fun _ => none) s1) :
    Inv (cxOf CX P w K mg base N qual scope f cd A outer s H E) [] (start N vs) H s1 := by
  have hpl : ps.length ≤ N.length := by have := congrArg List.length S.pre; rw [List.length_take] at this; omega
  obtain ⟨h1, tk, rfl, hk⟩ := x.done
  have noA : ∀ b : Addr, b ∉ (cxOf CX P w K mg base N qual scope f cd A outer s H E).ex := fun b z => absurd (show b ∈ ([] : List Addr) from z) (by simp)
  refine ⟨⟨e0.mod, S.kind, rfl, rfl, Nat.le_refl _, fun y z c h1 h2 => ?_, fun y hy => ?_, fun y c _ h => ?_, fun _ => hd, Around.frames_deeper e0.frames, .inr ⟨rfl, rfl⟩, fun b z => absurd z (noA b), e0.bs, e0.bsz, fun b _ _ => noA b, fun b z => absurd z (noA b), e0.funs, e0.frf⟩,
    rfl, e0.bare, Un.kept hk, ⟨_, x.toInCall.ns, fun i y v h1 h2 h3 => ?_⟩, fun y c h => ⟨_, x.cell y c h⟩, e0.hok.fresh (Nat.le_refl _), fun y c h => ?_, fun p hp => absurd (show p ∈ ([] : List (Addr × Obj)) from hp) (by simp), e0.hok.kept hk, ?_⟩
  · exact name_of_addr x.apart (PySem.mem_of_lookup h1) (PySem.mem_of_lookup h2)
  · have hy : scope.names.lookup y = some .cell ∨ scope.names.lookup y = some .free := hy
    rcases hy with hy | hy
    · exact cell_has hy
    · exact absurd rfl (S.nofree _ (PySem.mem_of_lookup hy))
  · exact Nat.le_of_lt (x.above y c (PySem.mem_of_lookup h))
  · have hi : i < vs.length := by
      unfold start at h2
      by_cases hi : i < vs.length
      · exact hi
      · rw [List.getElem?_append_right (by simpa using hi)] at h2
        rw [List.getElem?_replicate] at h2
        split at h2 <;> cases h2
    have ha : vs[i]? = some v := by
      unfold start at h2
      rw [List.getElem?_append_left (by simpa using hi), List.getElem?_map] at h2
      cases e : vs[i]? with
      | none => rw [e] at h2; cases h2
      | some a => rw [e] at h2; cases h2; rfl
    obtain ⟨u, hu, rv⟩ := r.get ha
    have hp : ps[i]? = some y := by
      rw [← S.pre, List.getElem?_take_of_lt (by omega)]; exact h1
    have ndP : ps.Nodup := by rw [← S.pre]; exact S.nd.sublist (List.take_sublist _ _)
    refine ⟨u, rv, ?_⟩
    rcases S.par y (List.mem_of_getElem? hp) with k | k
    · exact .inl ⟨k, bindL_get ndP hp hu k⟩
    · obtain ⟨c, e⟩ := cell_has (n := s.heap.objs.size + 1) k
      refine .inr ⟨.inl k, c, e, ?_⟩
      have q := x.cell y c e
      rw [bindC_get ndP hp hu (by show scope.names.lookup y ≠ _; rw [k]; decide)] at q
      exact q
  · exact e0.hok.fresh (Nat.le_of_lt (x.above y c (PySem.mem_of_lookup h)))
  · unfold start
    show _ = N.length
    rw [List.length_append, List.length_map, List.length_replicate]
    omega

theorem fn_of {CX : CXT} {P : Program} {w : World} {K : PySem.W.Frag} {mg : Str → Option Value} {base : Heap} {k : Nat} {f : Addr} {name qual : Str} {params : Arguments} {body : List Stmt} {scope : Scope} {dV kV doc pm cdv ct oc : Value} {an od : Option Addr}
    {osl : Array (Option Value)} {N ps : List Str} {sp : Sp} (lk : K.lookup f = some ⟨oc, od, .func (PySem.W.fnOf name qual params body scope dV kV doc pm an cdv ct), osl⟩) (hcd : PySem.W.codeIn K cdv qual = true) (S : FnScope N ps scope)
    (len : ∀ vs H Q E, sp vs H Q E → vs.length = ps.length)
    (hbody : ∀ (A : Around) (outer : List Env) (s : Shared) (H : Hp) (vs : List V) (Q : VK) (E : XK), Room k (A.deeper (envOfC qual scope s.heap.objs.size f cdv)) → sp vs H Q E →
      ∃ t, PSs (cxOf CX P w K mg base N qual scope f cdv A outer s H E) body t ∧ t { nx := fun _ H' => Q .non H', rt := Q } (start N vs) H) :
    FnOk P w K mg base CX (k + 1) f (PySem.W.fnOf name qual params body scope dV kV doc pm an cdv ct) ps sp := by
  with_unfolding_all
    refine ⟨len, fun A outer s H args us vs Q E hr e0 hb r hsp => ?_⟩
    have hl := len _ _ _ _ hsp
    have KX : K.In s.heap := e0.mod.kin.keeps fun b o e => (e0.bs b o e).1
    have lim : s.heap.NoLimit := e0.mod.nolimit.keeps fun b o e => (e0.bs b o e).1
    have hkind : ∀ y ∈ ps.zip us, scope.names.lookup y.1 = some .local ∨ (scope.names.lookup y.1 = some .cell ∧ ((cellsFrom (s.heap.objs.size + 1) scope.names []).lookup y.1).isSome = true) := fun ⟨n, v⟩ hy => by
      rcases S.par n (List.of_mem_zip hy).1 with q | q
      · exact .inl q
      · exact .inr ⟨q, PySem.W.cellsFrom_some _ _ _ (.inl q)⟩
    refine codeAny_call_function hr.depth (KX _ _ lk) rfl S.co S.gen rfl (PySem.W.codeRec_of KX hcd) (hb _ _ _ _ ?_)
    refine wpAny_newFunctionEnv_cells S.kind hkind fun env he s1 x => ?_
    subst he
    refine ⟨lim.keeps x.toInCall.keep, codeAny_func ?_⟩
    obtain ⟨t, ht, hq⟩ := hbody A outer s H vs Q E (hr.deeper _) hsp
    have I : Inv (cxOf CX P w K mg base N qual scope f cdv A outer s H E) [] (start N vs) H s1 := inv_start S hr.hd e0 hl r x
    refine wpAny_mono (ht [] s1 (start N vs) H _ I hq) (fun fl s' hs => ?_) fun e s' hs => hs
    have fin : ∀ {σ' : St} {H' : Hp} {v : V} {u : Value}, Inv (cxOf CX P w K mg base N qual scope f cdv A outer s H E) [] σ' H' s' → RelV v u → Q v H' → CE outer P w H s Q u s' :=
      fun {σ' H' v u} J rv q => ⟨v, H', J.os, J.bare, J.base, J.hok, rv, q⟩
    cases fl with
    | ret u =>
      obtain ⟨v, σ', H', J, rv, q⟩ := hs
      exact fin J rv q
    | next =>
      obtain ⟨σ', H', J, q⟩ := hs
      exact fin (v := V.non) (u := Value.none) J rfl q
    | brk =>
      obtain ⟨_, _, _, q⟩ := hs
      exact False.elim q
    | cont =>
      obtain ⟨_, _, _, q⟩ := hs
      exact False.elim q
end L2

namespace L2
open PySem PySem.Spec PyProof.Rows
section
variable {X : Cx} {x : Str} {p pos : Pos} {e : Expr} {es : List Expr} {t : TA} {id T : String} {r : List V → Hp → VK → Prop}

def tCB (r : List V → Hp → VK → Prop) (t : TA) : TE := fun σ H Q => t σ H fun vs H1 => r vs H1 Q
theorem pe_callB (hc : CallR X (.builtin id) r) (hg : Gl X x) (hm : X.mg x = none) (hv : bootBuiltins x = some (.builtin id)) (ha : PA X (e :: es) t) (hn : x ≠ "__name__" := by decide) (hdb : (x == ("__debug__" : Str)) = false := by decide)
    (he : starEach (e :: es) X.env = (false, eval e X.env) :: starEach es X.env := by rfl) (hpl : (backTo pos (starEach es X.env)).any (·.1) = false := by rfl) : PE X (.Call (.Name x p) (e :: es) [] pos) (tCB r t) := by
  with_unfolding_all
    intro pins s σ H Q I h
    refine wpAny_Call_Name_kw (ld_blt I hg hm hv ?_ hn hdb)
    exact PyProof.Rows.callWith_builtin1 (thn (ha pos pins s σ H _ I h) fun us s1 ⟨vs, H1, I1, r1, q1⟩ => hc pins s1 σ H1 vs us Q I1 r1 q1) he hpl
theorem pe_callTy (hc : CallR X (.type T) r) (hg : Gl X x) (hm : X.mg x = none) (hv : bootBuiltins x = some (.type T)) (ha : PA X (e :: es) t) (hn : x ≠ "__name__" := by decide) (hdb : (x == ("__debug__" : Str)) = false := by decide)
    (he : starEach (e :: es) X.env = (false, eval e X.env) :: starEach es X.env := by rfl) (hpl : (backTo pos (starEach es X.env)).any (·.1) = false := by rfl) : PE X (.Call (.Name x p) (e :: es) [] pos) (tCB r t) := by
  with_unfolding_all
    intro pins s σ H Q I h
    refine wpAny_Call_Name_kw (ld_blt I hg hm hv ?_ hn hdb)
    exact PyProof.Rows.callWith_type1 (thn (ha pos pins s σ H _ I h) fun us s1 ⟨vs, H1, I1, r1, q1⟩ => hc pins s1 σ H1 vs us Q I1 r1 q1) he hpl
end
end L2

namespace L2
open PySem PySem.Spec PyProof.Rows

/-! ### lists of pairs as tables -/
section
variable {κ : Type} [DecidableEq κ]
def valV (kvs : List (κ × V)) (k : κ) : Option V := (kvs.find? fun kv => decide (kv.1 = k)).map (·.2)
def putK (kvs : List (κ × V)) (k : κ) (v : V) : List (κ × V) :=
  if (kvs.any fun kv => decide (kv.1 = k)) = true then kvs.map (fun kv => if kv.1 = k then (kv.1, v) else kv) else kvs ++ [(k, v)]
theorem valV_pos {p : κ × V} {r : List (κ × V)} {k : κ} (e : p.1 = k) : valV (p :: r) k = some p.2 := by simp [valV, List.find?_cons, e]
theorem valV_neg {p : κ × V} {r : List (κ × V)} {k : κ} (e : ¬ p.1 = k) : valV (p :: r) k = valV r k := by simp [valV, List.find?_cons, e]
theorem valV_any (k : κ) : ∀ kvs : List (κ × V), (kvs.any fun kv => decide (kv.1 = k)) = (valV kvs k).isSome
  | [] => rfl
  | p :: r => by
    rw [List.any_cons]
    by_cases e : p.1 = k
    · simp only [valV_pos e, decide_eq_true e, Bool.true_or, Option.isSome_some]
    · rw [valV_neg e, decide_eq_false e, Bool.false_or]; exact valV_any k r
theorem valV_map (k j : κ) (y : V) : ∀ kvs : List (κ × V), valV (kvs.map fun kv => if kv.1 = k then (kv.1, y) else kv) j = (valV kvs j).map fun x => if j = k then y else x
  | [] => rfl
  | p :: r => by
    have ih := valV_map k j y r
    rw [List.map_cons]
    by_cases h : p.1 = k
    · rw [if_pos h]
      by_cases e : p.1 = j
      · rw [valV_pos (p := (p.1, y)) e, valV_pos e, Option.map_some, if_pos (e.symm.trans h)]
      · rw [valV_neg (p := (p.1, y)) e, valV_neg e, ih]
    · rw [if_neg h]
      by_cases e : p.1 = j
      · rw [valV_pos (p := p) e, valV_pos e, Option.map_some, if_neg (fun z => h (e.trans z))]
      · rw [valV_neg (p := p) e, valV_neg e, ih]
theorem valV_snoc (k j : κ) (y : V) : ∀ kvs : List (κ × V), valV kvs k = none → valV (kvs ++ [(k, y)]) j = if j = k then some y else valV kvs j
  | [], _ => by
    by_cases e : k = j
    · rw [if_pos e.symm]; exact valV_pos (p := (k, y)) e
    · rw [if_neg (fun z => e z.symm)]; exact valV_neg (p := (k, y)) e
  | p :: r, hn => by
    rw [List.cons_append]
    have hk : ¬ p.1 = k := fun z => by rw [valV_pos z] at hn; cases hn
    rw [valV_neg hk] at hn
    have ih := valV_snoc k j y r hn
    by_cases e : p.1 = j
    · rw [valV_pos e, valV_pos e, if_neg (fun z => hk (e.trans z))]
    · rw [valV_neg e, valV_neg e, ih]
theorem valV_put (kvs : List (κ × V)) (k j : κ) (y : V) : valV (putK kvs k y) j = if j = k then some y else valV kvs j := by
  unfold putK
  by_cases a : (kvs.any fun kv => decide (kv.1 = k)) = true
  · rw [if_pos a, valV_map]
    rw [valV_any] at a
    by_cases e : j = k
    · obtain ⟨x, hx⟩ := Option.isSome_iff_exists.mp a
      rw [if_pos e, e, hx, Option.map_some, if_pos rfl]
    · rw [if_neg e]
      cases valV kvs j with
      | none => rfl
      | some x => rw [Option.map_some, if_neg e]
  · rw [if_neg a]
    refine valV_snoc k j y kvs ?_
    rw [valV_any] at a
    cases q : valV kvs k with
    | none => rfl
    | some x => rw [q] at a; exact (a rfl).elim
theorem length_putK (kvs : List (κ × V)) (k : κ) (v : V) : (putK kvs k v).length ≤ kvs.length + 1 := by
  unfold putK
  split
  · rw [List.length_map]; omega
  · rw [List.length_append, List.length_cons, List.length_nil]; omega
theorem putK_new {kvs : List (κ × V)} {k : κ} (v : V) (h : valV kvs k = none) : putK kvs k v = kvs ++ [(k, v)] := by
  unfold putK
  rw [valV_any, h]
  exact if_neg (by decide)

theorem RelO.isSome_eq {o : Option V} {u : Option Value} (r : RelO o u) : o.isSome = u.isSome := by
  cases o with
  | none => cases u with
    | none => rfl
    | some _ => exact (show False from r).elim
  | some _ => cases u with
    | none => exact (show False from r).elim
    | some _ => rfl
theorem KV.val {kvs : List (κ × V)} {vs : List (κ × Value)} (r : KV kvs vs) (k : κ) : RelO (valV kvs k) (valueAt vs k) := by
  unfold KV at r
  induction r with
  | nil => exact True.intro
  | @cons p q ps qs h t ih =>
    obtain ⟨h1, h2⟩ := h
    by_cases e : p.1 = k
    · have e' : q.1 = k := h1.symm.trans e
      have b : valueAt (q :: qs) k = some q.2 := by simp [valueAt, List.find?_cons, e']
      rw [valV_pos e, b]; exact h2
    · have e' : ¬ q.1 = k := fun z => e (h1.trans z)
      have b : valueAt (q :: qs) k = valueAt qs k := by simp [valueAt, List.find?_cons, e']
      rw [valV_neg e, b]; exact ih
theorem KV.any {kvs : List (κ × V)} {vs : List (κ × Value)} (r : KV kvs vs) (k : κ) : (kvs.any fun kv => decide (kv.1 = k)) = vs.any fun kv => decide (kv.1 = k) := by
  unfold KV at r
  induction r with
  | nil => rfl
  | cons h t ih => rw [List.any_cons, List.any_cons, ih, h.1]
theorem KV.repl {kvs : List (κ × V)} {vs : List (κ × Value)} (r : KV kvs vs) (k : κ) {y : V} {u : Value} (ry : RelV y u) :
    KV (kvs.map fun kv => if kv.1 = k then (kv.1, y) else kv) (vs.map fun kv => if kv.1 = k then (kv.1, u) else kv) := by
  unfold KV at r ⊢
  induction r with
  | nil => exact .nil
  | @cons p q ps qs h t ih =>
    rw [List.map_cons, List.map_cons]
    refine .cons ?_ ih
    obtain ⟨h1, h2⟩ := h
    by_cases e : p.1 = k
    · rw [if_pos e, if_pos (h1.symm.trans e)]; exact ⟨h1, ry⟩
    · rw [if_neg e, if_neg (fun z => e (h1.trans z))]; exact ⟨h1, h2⟩
theorem KV.put {kvs : List (κ × V)} {vs : List (κ × Value)} (r : KV kvs vs) (k : κ) {y : V} {u : Value} (ry : RelV y u) : KV (putK kvs k y) (stored vs k u) := by
  unfold putK stored
  rw [r.any k]
  by_cases e : (vs.any fun kv => decide (kv.1 = k)) = true
  · rw [if_pos e, if_pos e]; exact r.repl k ry
  · rw [if_neg e, if_neg e]; exact Paired.snoc r ⟨rfl, ry⟩
theorem KV.keys {kvs : List (κ × V)} {vs : List (κ × Value)} (r : KV kvs vs) : kvs.map (·.1) = vs.map (·.1) := by
  unfold KV at r
  induction r with
  | nil => rfl
  | cons h t ih => rw [List.map_cons, List.map_cons, ih, h.1]
theorem KV.length {kvs : List (κ × V)} {vs : List (κ × Value)} (r : KV kvs vs) : kvs.length = vs.length := Paired.length r
end


/-! ### a tracked dict, its keys ints and texts or tuples of these -/
theorem kV_is {P : Program} {w : World} {k : Key} {u : Value} (r : RelV (kV k) u) : (mixKind P w).is k u = true := by
  cases k with
  | inl i => obtain ⟨t, e⟩ := (show ∃ t, u = Value.int i t from r); subst e; exact mixKind_int P w i t
  | inr x => obtain ⟨t, e⟩ := (show ∃ t, u = Value.str x t from r); subst e; exact mixKind_str P w x t
theorem items_are {P : Program} {w : World} : ∀ {ks : List Key} {us : List Value}, Vals (ks.map kV) us → ItemsAre (mixKind P w) ks us
  | [], _, r => by rw [List.map_nil] at r; cases r; exact .nil
  | k :: ks, _, r => by
    rw [List.map_cons] at r
    cases r with
    | cons h t => exact .cons (kV_is h) (items_are t)

abbrev KT (H : Hp) : List (List Key × V) → List (List Key × Addr × Value) → Prop := Paired fun p q => p.1 = q.1 ∧ H q.2.1 = some (.tup (p.1.map kV)) ∧ RelV p.2 q.2.2
theorem KT.val {H : Hp} {kvs : List (List Key × V)} {xs : List (List Key × Addr × Value)} (r : KT H kvs xs) (k : List Key) : RelO (valV kvs k) ((atKey xs k).map (·.2)) := by
  induction r with
  | nil => exact True.intro
  | @cons p q ps qs h t ih =>
    obtain ⟨h1, _, h2⟩ := h
    by_cases e : p.1 = k
    · have e' : q.1 = k := h1.symm.trans e
      have b : atKey (q :: qs) k = some q.2 := by simp [atKey, List.find?_cons, e']
      rw [valV_pos e, b]; exact h2
    · have e' : ¬ q.1 = k := fun z => e (h1.trans z)
      have b : atKey (q :: qs) k = atKey qs k := by simp [atKey, List.find?_cons, e']
      rw [valV_neg e, b]; exact ih
theorem KT.repl {H : Hp} {kvs : List (List Key × V)} {xs : List (List Key × Addr × Value)} (r : KT H kvs xs) (k : List Key) {y : V} {u : Value} (ry : RelV y u) :
    KT H (kvs.map fun kv => if kv.1 = k then (kv.1, y) else kv) (xs.map (putAt k u)) := by
  induction r with
  | nil => exact .nil
  | @cons p q ps qs h t ih =>
    rw [List.map_cons, List.map_cons]
    refine .cons ?_ ih
    obtain ⟨h1, h2, h3⟩ := h
    unfold putAt
    by_cases e : p.1 = k
    · rw [if_pos e, if_pos (h1.symm.trans e)]; exact ⟨h1, h2, ry⟩
    · rw [if_neg e, if_neg (fun z => e (h1.trans z))]; exact ⟨h1, h2, h3⟩
theorem KT.put {H : Hp} {kvs : List (List Key × V)} {xs : List (List Key × Addr × Value)} (r : KT H kvs xs) (k : List Key) {b : Addr} {y : V} {u : Value} (hb : H b = some (.tup (k.map kV))) (ry : RelV y u) :
    KT H (putK kvs k y) (storedH xs k b u) := by
  have e : (kvs.any fun kv => decide (kv.1 = k)) = (atKey xs k).isSome := by
    rw [valV_any, (r.val k).isSome_eq, Option.isSome_map]
  unfold putK storedH
  rw [e]
  by_cases q : (atKey xs k).isSome = true
  · rw [if_pos q, if_pos q]; exact r.repl k ry
  · rw [if_neg q, if_neg q]; exact Paired.snoc r ⟨rfl, hb, ry⟩
theorem KT.keeps {H H' : Hp} {kvs : List (List Key × V)} {xs : List (List Key × Addr × Value)} (r : KT H kvs xs) (ht : ∀ b ys, H b = some (.tup ys) → H' b = some (.tup ys)) : KT H' kvs xs :=
  Paired.mapP r fun _ _ z => ⟨z.1, ht _ _ z.2.1, z.2.2⟩

section
variable {P : Program} {w : World} {H : Hp} {h : Heap} {a : Addr}
theorem rd_of {u : HO} (ok : HOk P w H h) (e : Rd H a u) : ObjOk P w H h a u := e.ok ok
theorem dk_rd {kvs : List (Key × V)} (ok : HOk P w H h) (e : Rd H a (.dK kvs)) : kvs.length ≤ sizeLine ∧ (a == sysModules) = false ∧ ∃ vs, KV kvs vs ∧ h.DictOf (mixKind P w) a vs :=
  show ObjOk P w H h a (.dK kvs) from rd_of ok e
theorem dk_of {kvs : List (Key × V)} (ok : HOk P w H h) (e : H a = some (.dK kvs)) : kvs.length ≤ sizeLine ∧ (a == sysModules) = false ∧ ∃ vs, KV kvs vs ∧ h.DictOf (mixKind P w) a vs := dk_rd ok (.inl e)
theorem key_of {ks : List Key} (ok : HOk P w H h) (e : H a = some (.tup (ks.map kV))) : (tupleKind (mixKind P w)).is h ks a := by
  obtain ⟨_, its, r, o, h1, h2, n, h3⟩ := (show ObjOk P w H h a (.tup (ks.map kV)) from ok a _ e)
  exact ⟨o, its.toArray, n, h1, h2, h3, by simpa using items_are r⟩
theorem dt_rd {kvs : List (List Key × V)} (ok : HOk P w H h) (e : Rd H a (.dT kvs)) : kvs.length ≤ sizeLine ∧ (a == sysModules) = false ∧
    ∃ xs, KT H kvs xs ∧ h.DictOfH (tupleKind (mixKind P w)) a xs := by
  obtain ⟨z, y, xs, r, o, es, ep, h1, h2, h3, h4, h5⟩ := (show ObjOk P w H h a (.dT kvs) from rd_of ok e)
  refine ⟨z, y, xs, r, o, es, ep, h1, h2, h3, h4, fun x hx => ?_, h5⟩
  have all : ∀ {l : List (List Key × V)} {m : List (List Key × Addr × Value)}, KT H l m → ∀ x ∈ m, (tupleKind (mixKind P w)).is h x.1 x.2.1 := by
    intro l m q
    induction q with
    | nil => intro x hx; exact nomatch hx
    | @cons p q ps qs hq t ih =>
      intro x hx
      rcases List.mem_cons.mp hx with e | hx
      · subst e
        exact key_of ok (by rw [← hq.1]; exact hq.2.1)
      · exact ih x hx
  exact all r x hx
theorem dt_of {kvs : List (List Key × V)} (ok : HOk P w H h) (e : H a = some (.dT kvs)) : kvs.length ≤ sizeLine ∧ (a == sysModules) = false ∧
    ∃ xs, KT H kvs xs ∧ h.DictOfH (tupleKind (mixKind P w)) a xs := dt_rd ok (.inl e)
end

def DGet (H : Hp) (a : Addr) (y : V) (r : Option V) : Prop :=
  (∃ kvs k, Rd H a (.dK kvs) ∧ y = kV k ∧ r = valV kvs k) ∨ ∃ kvs k b, Rd H a (.dT kvs) ∧ y = .ref b ∧ H b = some (.tup (k.map kV)) ∧ r = valV kvs k
def DPut (H : Hp) (a : Addr) (y v : V) (H' : Hp) : Prop :=
  (∃ kvs k, H a = some (.dK kvs) ∧ y = kV k ∧ kvs.length < sizeLine ∧ H' = upd H a (.dK (putK kvs k v))) ∨
  ∃ kvs k b, H a = some (.dT kvs) ∧ y = .ref b ∧ H b = some (.tup (k.map kV)) ∧ kvs.length < sizeLine ∧ H' = upd H a (.dT (putK kvs k v))
theorem DPut.k {H : Hp} {a : Addr} {kvs : List (Key × V)} {k : Key} {v : V} (e : H a = some (.dK kvs)) (hl : kvs.length < sizeLine) : DPut H a (kV k) v (upd H a (.dK (putK kvs k v))) := .inl ⟨kvs, k, e, rfl, hl, rfl⟩
section
variable {X : Cx} {pins : List (Addr × Obj)} {σ : St} {H : Hp} {s : Shared} {a : Addr} {y v : V} {u r : Value} {o : Option V} {A : Around} {E : Value → Shared → Prop}

theorem Inv.big (I : Inv X pins σ H s) : sysModules < s.heap.objs.size := by
  have h : mainGlobals < s.heap.objs.size := (I.mod.glob.keeps I.bk).lt
  exact Nat.lt_trans (by decide) h

theorem d_getItem {Q : Value → Shared → Prop} (hu : A.units + 1 < cLine) (I : Inv X pins σ H s) (g : DGet H a y (some v)) (ry : RelV y u) (h : ∀ w' s', Inv X pins σ H s' → RelV v w' → Q w' s') :
    wpAny (model X.prog X.w) A (getItem (.ref a) u) Q E s := by
  rcases g with ⟨kvs, k, e, ey, l⟩ | ⟨kvs, k, b, e, ey, eb, l⟩
  · subst ey
    obtain ⟨z, hd, vs, rel, dd⟩ := dk_rd I.hok e
    obtain ⟨w', hw, rw'⟩ := RelO.some_of (v := v) (o := valueAt vs k) (by rw [l]; exact rel.val k)
    exact wpAny_getItem_of (kV_is ry) dd.mapOf hw (h w' _ (I.tok _) rw')
  · subst ey
    cases (show u = Value.ref b from ry)
    obtain ⟨z, hd, xs, rel, dd⟩ := dt_rd I.hok e
    obtain ⟨w', hw, rw'⟩ := RelO.some_of (v := v) (o := (atKey xs k).map (·.2)) (by rw [l]; exact rel.val k)
    obtain ⟨p, hp, hp2⟩ := Option.map_eq_some_iff.mp hw
    refine wpAny_getItem_heap (tupleKind_room_in1 hu) (key_of I.hok eb) dd hp ?_
    rw [hp2]
    exact h w' _ (I.tok _) rw'
theorem d_write {h' : Heap} {t' : Nat} {ob : HO} (I : Inv X pins σ H s) (mu : Mut (H a)) (hs : Heap.SameBut a s.heap h') (he : ∃ q, h'.get? a = some q) (new : ObjOk X.prog X.w (upd H a ob) h' a ob) :
    Inv X pins σ (upd H a ob) { s with heap := h', toks := t' } :=
  I.write (x := a) (e := a) mu (.inl rfl) (fun b q hb z => (hs.2 b hb).trans z) he new
theorem dk_new {P : Program} {w : World} {H' : Hp} {h' : Heap} {kvs : List (Key × V)} {vs : List (Key × Value)} (z : kvs.length ≤ sizeLine) (hd : (a == sysModules) = false) (rel : KV kvs vs) (dd : h'.DictOf (mixKind P w) a vs) :
    ObjOk P w H' h' a (.dK kvs) := ⟨z, hd, vs, rel, dd⟩
theorem d_setItem {H' : Hp} {Q : Unit → Shared → Prop} (hu : A.units + 1 < cLine) (I : Inv X pins σ H s) (g : DPut H a y v H') (ry : RelV y u) (rv : RelV v r) (h : ∀ s', Inv X pins σ H' s' → Q () s') :
    wpAny (model X.prog X.w) A (setItem (.ref a) u r) Q E s := by
  rcases g with ⟨kvs, k, e, ey, l, eH⟩ | ⟨kvs, k, b, e, ey, eb, l, eH⟩
  · subst ey eH
    obtain ⟨z, hd, vs, rel, dd⟩ := dk_of I.hok e
    have hz : vs.length ≤ sizeLine := by rw [← rel.length]; exact z
    have hl : (putK kvs k v).length ≤ sizeLine := by have := length_putK kvs k v; omega
    refine wpAny_setItem_pairs (hsz := hz) (kV_is ry) dd fun h' dd' hs => h _ ?_
    have he : ∃ q, h'.get? a = some q := let ⟨q, _, _, hq, _⟩ := dd'; ⟨q, hq⟩
    exact d_write I (by rw [e]; exact True.intro) hs he (dk_new hl hd (rel.put k rv) dd')
  · subst ey eH
    cases (show u = Value.ref b from ry)
    obtain ⟨z, hd, xs, rel, dd⟩ := dt_of I.hok e
    have hz : xs.length ≤ sizeLine := by rw [← Paired.length rel]; exact z
    have hl : (putK kvs k v).length ≤ sizeLine := by have := length_putK kvs k v; omega
    refine wpAny_setItem_heap (hsz := hz) (tupleKind_room_in1 hu) (key_of I.hok eb) dd fun h' dd' hs => h _ ?_
    obtain ⟨q, es, ep, hq, h2, h3, h4, _, h5⟩ := dd'
    refine d_write I (by rw [e]; exact True.intro) hs ⟨q, hq⟩ ⟨hl, hd, _, (rel.put k eb rv).keeps fun c ys ec => ?_, q, es, ep, hq, h2, h3, h4, h5⟩
    rw [upd_ne (ne_of ec e (fun z => nomatch z))]
    exact ec
end

section
variable {X : Cx} {pins : List (Addr × Obj)} {σ : St} {H : Hp} {s : Shared} {a : Addr} {kvs : List (Key × V)} {k : Key} {u : Value} {A : Around} {E : Value → Shared → Prop}
end


/-! ### readings and rules -/
def NoSl (i : Expr) : Prop := ∀ ov iv, subscripted i false ov iv = operate [ov, iv] (getItem ov iv)
theorem subD_of {prog : Program} {w : World} {A : Around} {E : Value → Shared → Prop} {s : Shared} {env : Env} {value slice : Expr} {pos : Pos} {T id : String} {Q : Value → Shared → Prop}
    (hl : typeLookup (.type T) "__getitem__" = pure (some (.builtin id))) (hs : NoSl slice)
    (h : wpAny (model prog w) A (eval value env) (fun o s₁ => wpAny (model prog w) A (eval slice env) (fun i s₂ => s₂.TypeIs o T ∧ wpAny (model prog w) A (getItem o i) Q E s₂) E s₁) E s) :
    wpAny (model prog w) A (eval (.Subscript value slice pos) env) Q E s := by
  refine Subscript_ (wpAny_mono h (fun o s₁ h₁ => wpAny_mono h₁ (fun i s₂ h₂ => ?_) fun _ _ x => x) fun _ _ x => x)
  obtain ⟨hT, h₂⟩ := h₂
  unfold subscriptTail
  refine wpAny_bind ?_
  rw [getitemInPython_of_ne hT.not_modules]
  refine wpAny_bind (wpAny_specialOf hT hl ?_)
  have fin : wpAny (model prog w) A (subscripted slice false o i) (fun r s₃ => wpAny (model prog w) A (letTemporaryGo value o r >>= fun _ => pure r) Q E s₃) E s₂ := by
    rw [hs o i]
    exact wpAny_operating (wpAny_mono h₂ (fun r s₃ h₃ => wpAny_bind (wpAny_letTemporaryGo (wpAny_pure h₃))) fun _ _ x => x)
  first
    | exact wpAny_pure (wpAny_bind fin)
    | exact wpAny_bind (wpAny_pure (wpAny_bind fin))
    | exact wpAny_bind fin

theorem dict_typeIs {X : Cx} {pins : List (Addr × Obj)} {σ : St} {H : Hp} {s : Shared} {a : Addr} {y : V} {o : Option V} (I : Inv X pins σ H s) (g : DGet H a y o) : s.TypeIs (.ref a) "dict" := by
  rcases g with ⟨kvs, k, e, _, _⟩ | ⟨kvs, k, b, e, _, _, _⟩
  · obtain ⟨_, _, vs, _, dd⟩ := dk_rd I.hok e
    exact dd.typeIs
  · obtain ⟨_, _, xs, _, dd⟩ := dt_rd I.hok e
    exact dd.typeIs
def tDGet (td ty : TE) : TE := fun σ H Q => td σ H fun x H1 => ty σ H1 fun y H2 => ∃ a v, x = .ref a ∧ DGet H2 a y (some v) ∧ Q v H2
def sDPut (td ty tv : TE) : TS := fun D σ H => tv σ H fun v H1 => td σ H1 fun x H2 => ty σ H2 fun y H3 => ∃ a H4, x = .ref a ∧ DPut H3 a y v H4 ∧ D.nx σ H4
section
variable {X : Cx} {o i e value : Expr} {pos pos' tpos : Pos} {td ty tv : TE}
theorem pe_dget (hu : X.A.units + 1 < cLine) (ho : PE X o td) (hi : PE X i ty) (hs : NoSl i) : PE X (.Subscript o i pos) (tDGet td ty) := by
  with_unfolding_all
    intro pins s σ H Q I h
    refine subD_of PySem.F.slot_dict_getitem.lookup hs (thn (ho pins s σ H _ I h) fun u s1 ⟨x, H1, I1, rx, q1⟩ => thn (hi pins s1 σ H1 _ I1 q1) fun iv s2 ⟨y, H2, I2, ry, a, v, ex, g, q2⟩ => ?_)
    subst ex
    obtain rfl : u = Value.ref a := rx
    exact ⟨dict_typeIs I2 g, d_getItem hu I2 g ry fun w' s3 I3 rw' => ⟨v, H2, I3, rw', q2⟩⟩
theorem ps_dput (hu : X.A.units + 1 < cLine) (ho : PE X o td) (hi : PE X i ty) (hv : PE X value tv) (hs : swapsWith value (some (.Subscript o i pos')) pos.line X.env = pure false) :
    PS X (.Assign [.Subscript o i pos'] value pos) (sDPut td ty tv) := by
  with_unfolding_all
    intro pins s σ H D I h
    refine wpAny_Assign_Subscript (thn (hv pins s σ H _ I h) fun r s1 ⟨v, H1, I1, rv, q1⟩ => thn (ho pins s1 σ H1 _ I1 q1) fun u s2 ⟨x, H2, I2, rx, q2⟩ => thn (hi pins s2 σ H2 _ I2 q2) fun iv s3 ⟨y, H3, I3, ry, a, H4, ex, g, q3⟩ => ?_) hs
    subst ex
    obtain rfl : u = Value.ref a := rx
    exact d_setItem hu I3 g ry rv fun s4 I4 => ⟨σ, H4, I4, q3⟩
end


/-! ### displays -/
theorem dk_empty {P : Program} {w : World} {H : Hp} (h : Heap) (hb : sysModules < h.objs.size) : ObjOk P w H (h.push { cls := .type "dict", data := .dict #[] }) h.objs.size (.dK []) :=
  ⟨Nat.zero_le _, beq_eq_false_iff_ne.mpr (Ne.symm (Nat.ne_of_lt hb)), [], .nil, Heap.DictOf.new h⟩
def tDNewK : TE := fun _ H Q => ∀ p, H p = none → Q (.ref p) (upd H p (.dK []))
section
variable {X : Cx} {pos : Pos}
theorem pe_dnewK : PE X (.Dict [] [] pos) tDNewK := by
  with_unfolding_all
    exact fun pins s σ H Q I h =>
      wpAny_Dict_empty ⟨.ref s.heap.objs.size, _, I.laid (a := s.heap.objs.size) (o := .dK []) (t' := s.toks) (fun _ _ q => Heap.get?_push_of_some _ q) (Nat.le_refl _) (dk_empty s.heap I.big), rfl, h _ (I.hok.fresh (Nat.le_refl _))⟩
end

/-! ### methods -/
structure M1 (X : Cx) (o : Expr) (m : Str) (apos : Pos) (e : Expr) (cpos : Pos) : Prop where
  base : attributeBase o m X.env (eval o X.env) = eval o X.env
  few : ((backTo cpos (starEach [e] X.env)).all (fun x => !x.1) && (backToKw cpos (keywordEach [] X.env)).all (fun x => x.1.isSome)
    && decide (([e] : List Expr).length + ([] : List Keyword).length + (if ([] : List Keyword).isEmpty then 0 else 1) < 30)) = true
  line : (apos.endLine == cpos.line) = true
  trees : backTo cpos (starEach [e] X.env) = [(false, eval e X.env)]
structure M2 (X : Cx) (o : Expr) (m : Str) (apos : Pos) (e f : Expr) (cpos : Pos) : Prop where
  base : attributeBase o m X.env (eval o X.env) = eval o X.env
  few : ((backTo cpos (starEach [e, f] X.env)).all (fun x => !x.1) && (backToKw cpos (keywordEach [] X.env)).all (fun x => x.1.isSome)
    && decide (([e, f] : List Expr).length + ([] : List Keyword).length + (if ([] : List Keyword).isEmpty then 0 else 1) < 30)) = true
  line : (apos.endLine == cpos.line) = true
  trees : backTo cpos (starEach [e, f] X.env) = [(false, eval e X.env), (false, eval f X.env)]

section
variable {X : Cx} {pins : List (Addr × Obj)} {σ : St} {H : Hp} {s : Shared} {a : Addr} {y d : V} {u r : Value} {o : Option V} {A : Around} {E : Value → Shared → Prop}
end

section
variable {X : Cx} {o e f : Expr} {apos cpos : Pos} {td ty tx : TE}
end

/-! ### dict(d): a copy -/
section
variable {X : Cx} {pins : List (Addr × Obj)} {σ : St} {H : Hp} {s : Shared} {a : Addr} {kvs : List (Key × V)} {A : Around} {E : Value → Shared → Prop}
end


section
variable {X : Cx} {pins : List (Addr × Obj)} {σ : St} {H : Hp} {s : Shared} {a : Addr} {y : V} {u : Value} {A : Around} {E : Value → Shared → Prop}
end
end L2

namespace HT
open PySem PyProof.Rows

def lexLt : List Int → List Int → Bool
  | [], [] => false
  | [], _ :: _ => true
  | _ :: _, [] => false
  | x :: xs, y :: ys => if x = y then lexLt xs ys else decide (x < y)
theorem lexLt_cons (x y : Int) (xs ys : List Int) : lexLt (x :: xs) (y :: ys) = if x = y then lexLt xs ys else decide (x < y) := rfl
theorem lexLt_nil_nil : lexLt [] [] = false := rfl
theorem lexLt_nil_cons (y : Int) (ys : List Int) : lexLt [] (y :: ys) = true := rfl
theorem lexLt_cons_nil (x : Int) (xs : List Int) : lexLt (x :: xs) [] = false := rfl

theorem eqAt_int (A : Around) (s : Shared) (a : Int) (t : Tok) (c : Int) (u : Tok) : ∃ e, SeqAt.EqAt A s (.int a t) (.int c u) e ∧ (e = true ↔ a = c) :=
  ⟨(a == c), SeqAt.EqAt.int_int a t c u, by simp⟩
theorem rcLt_int (A : Around) (s : Shared) (a : Int) (t : Tok) (c : Int) (u : Tok) (prog : Program) (w : World) (E : Value → Shared → Prop) (Q : Value → Shared → Prop) (h : Q (.bool (decide (a < c))) s) :
    wpAny (model prog w) A (richCompare .Lt (.int a t) (.int c u)) Q E s :=
  (PyProof.Rows.lt_int h : wpAny (model prog w) A (compareOp .Lt (.int a t) (.int c u)) Q E s)

section
open PySem.SeqAt
open PySem.AutoSeq1 (wpAny_loadPart')
open PySem.MeetsSeq PySem.MeetsSeq2 PySem.MeetsSeq3

theorem tuple_lt_ints (l b : Addr) (items items2 : Array Value) (n n2 : Nat) (dd dd2 : Option Addr) (sl sl2 : Array (Option Value)) (ns ms : List Int) (hi : IntsAre items.toList ns) (hj : IntsAre items2.toList ms) :
    Meets (Builtin.«tuple.__lt__» ⟨[.ref l, .ref b], []⟩)
      (fun _ R s => s.heap.get? l = some { cls := .type "tuple", dict := dd, data := .seq items n, slots := sl } ∧ s.heap.get? b = some { cls := .type "tuple", dict := dd2, data := .seq items2 n2, slots := sl2 } ∧
        R (.ok (.ret (.bool (lexLt ns ms)))) s) :=
  .of_wp fun prog w A R s h => by
    obtain ⟨hp, g, d, tk, os⟩ := s; obtain ⟨hl, hb, h⟩ := h
    have f2 := AutoSeq1.sub_tuple_tuple
    have z1 : items.size = ns.length := by rw [← hi.length]; simp
    have z2 : items2.size = ms.length := by rw [← hj.length]; simp
    wp_walk using wpAny_loadPart' hl, wpAny_loadPart' hb, wpAny_forIn_list _ (fun rest b s' => b.1 = none ∧ s' = ⟨hp, g, d, tk, os⟩ ∧ ∃ (vs ws : List Value) (ns' ms' : List Int), rest = vs.zip ws ∧
      IntsAre vs ns' ∧ IntsAre ws ms' ∧ ns'.length + items2.size = ms'.length + items.size ∧ R (.ok (.ret (.bool (lexLt ns' ms')))) ⟨hp, g, d, tk, os⟩) _
    case turn =>
      rintro ⟨y, x⟩ rest b s' ⟨hb', rfl, vs, ws, ns', ms', hz, hvi, hwi, hlen, hR⟩
      cases hvi with
      | nil => rw [List.zip_nil_left] at hz; cases hz
      | cons a t hvi' =>
        cases hwi with
        | nil => rw [List.zip_nil_right] at hz; cases hz
        | cons c u hwi' =>
          rw [List.zip_cons_cons] at hz
          injection hz with hyx hrest
          injection hyx with hy hx
          subst hy hx
          rw [lexLt_cons] at hR
          simp only [List.length_cons] at hlen
          obtain ⟨e, he, hiff⟩ := eqAt_int A.in1 ⟨hp, g, d, tk, os⟩ a t c u
          refine wpAny_bind (he prog w _ _ ?_)
          cases e with
          | true =>
            rw [if_pos (hiff.mp rfl)] at hR
            wp_walk
            exact ⟨rfl, rfl, _, _, _, _, hrest, hvi', hwi', by omega, hR⟩
          | false =>
            rw [if_neg (fun q => absurd (hiff.mpr q) Bool.false_ne_true)] at hR
            have hri := rcLt_int A.in1 ⟨hp, g, d, tk, os⟩ a t c u prog w
            wp_walk using hri
            exact ⟨_, rfl, by simpa using hR⟩
    case fin =>
      rintro ⟨b1, b2⟩ s' ⟨hb', rfl, vs, ws, ns', ms', hz, hvi, hwi, hlen, hR⟩
      simp only at hb'
      subst hb'
      have hv : lexLt ns' ms' = decide (items.size < items2.size) := by
        cases hvi with
        | nil =>
          cases hwi with
          | nil =>
            simp only [List.length_nil] at hlen
            rw [lexLt_nil_nil]
            exact (decide_eq_false (by omega)).symm
          | cons c u hw =>
            simp only [List.length_nil, List.length_cons] at hlen
            rw [lexLt_nil_cons]
            exact (decide_eq_true (by omega)).symm
        | cons a t hv =>
          cases hwi with
          | nil =>
            simp only [List.length_nil, List.length_cons] at hlen
            rw [lexLt_cons_nil]
            exact (decide_eq_false (by omega)).symm
          | cons c u hw =>
            rw [List.zip_cons_cons] at hz
            cases hz
      rw [hv] at hR
      wp_walk
      exact ⟨_, rfl, by simpa [Builtin.Tuple.tupleCompareSizes] using hR⟩
    case h =>
      exact ⟨rfl, rfl, items.toList, items2.toList, ns, ms, rfl, hi, hj, by omega, h⟩
end

section
variable {prog : Program} {w : World} {A : Around} {E : Value → Shared → Prop} {s : Shared}

theorem lt_tupInts {l b : Addr} {items items2 : Array Value} {ns ms : List Int} {Q : Value → Shared → Prop} (hl : IsTup s.heap l items) (hb : IsTup s.heap b items2) (hi : IntsAre items.toList ns) (hj : IntsAre items2.toList ms)
    (hu : A.units < cLine) (h : Q (.bool (lexLt ns ms)) s) : wpAny (model prog w) A (compareOp .Lt (.ref l) (.ref b)) Q E s := by
  obtain ⟨⟨cls, dd, data, sl⟩, ho, hc, n, hd⟩ := id hl
  obtain ⟨⟨cls2, dd2, data2, sl2⟩, ho2, hc2, n2, hd2⟩ := id hb
  simp only at hc hd hc2 hd2
  subst hc hd hc2 hd2
  exact richCompare_meets_room (op := .Lt) ⟨_, ho, rfl⟩ ⟨_, ho2, rfl⟩ PySem.F.slot_tuple_lt PySem.F.entry_tuple_lt (PySem.F.args_tuple_lt_2 _ _) (tuple_lt_ints l b items items2 n n2 dd dd2 sl sl2 ns ms hi hj)
    ⟨ho, ho2, show Value.bool (lexLt ns ms) ≠ Value.notImplemented ∧ Q (.bool (lexLt ns ms)) s from ⟨(fun x => nomatch x), h⟩⟩ hu

/-! ### t[a:b], not the whole -/
def sIx (n d : Nat) : Option Int → Nat
  | none => d
  | some v => if v < 0 then (v + (n : Int)).toNat else min v.toNat n
theorem sIx_none (n d : Nat) : sIx n d none = d := rfl
theorem sIx_nat (n d k : Nat) : sIx n d (some (k : Int)) = min k n := by
  show (if (k : Int) < 0 then ((k : Int) + (n : Int)).toNat else min (k : Int).toNat n) = min k n
  rw [if_neg (by omega), Int.toNat_natCast]
end
end HT

namespace L2
open PySem PySem.Spec PyProof.Rows

/-! ### the parts of a slice -/
abbrev TO := St → Hp → (Option Int → Hp → Prop) → Prop
def PO (X : Cx) (e : Option Expr) (t : TO) : Prop :=
  ∀ (pins : List (Addr × Obj)) (s : Shared) (σ : St) (H : Hp) (Q : Option Int → Hp → Prop), Inv X pins σ H s → t σ H Q →
    wpAny (model X.prog X.w) X.A (evalPart e X.env) (fun u s' => ∃ o H', Inv X pins σ H' s' ∧ IsPart u o ∧ Q o H') X.xe s
def tNoPart : TO := fun _ H Q => Q none H
def tPart (t : TE) : TO := fun σ H Q => t σ H fun x H1 => ∃ i, x = .int i ∧ Q (some i) H1

theorem intsAre_of {ns : List Int} : ∀ {us : List Value}, Vals (ns.map V.int) us → IntsAre us ns := by
  induction ns with
  | nil => intro us r; rw [List.map_nil] at r; cases r; exact .nil
  | cons n ns ih =>
    intro us r
    rw [List.map_cons] at r
    cases r with
    | cons r1 r2 =>
      obtain ⟨t, e⟩ := r1
      subst e
      exact .cons n t (ih r2)

section
variable {X : Cx} {e : Expr} {te : TE} {lo hi : Option Expr} {tl th : TO} {pos p2 : Pos}

theorem po_none : PO X none tNoPart := by
  intro pins s σ H Q I h
  rw [evalPart_none]
  exact wpAny_pure ⟨none, H, I, .none, h⟩
theorem po_some (h : PE X e te) : PO X (some e) (tPart te) := by
  with_unfolding_all
    intro pins s σ H Q I hw
    rw [evalPart_some]
    refine thn (h pins s σ H _ I hw) fun u s1 ⟨x, H1, I1, r1, q1⟩ => ?_
    obtain ⟨i, rfl, q⟩ := q1
    obtain ⟨t, rfl⟩ := r1
    exact ⟨some i, H1, I1, .int i t, q⟩

def SlR (X : Cx) (r : V → Option Int → Option Int → Hp → VK → Prop) : Prop :=
  ∀ (pins : List (Addr × Obj)) (s : Shared) (σ : St) (H : Hp) (x : V) (v vl vu : Value) (lo hi : Option Int) (sl : Addr) (Q : VK), Inv X pins σ H s → RelV x v → s.heap.IsSliceOf sl vl vu .none → IsPart vl lo → IsPart vu hi → r x lo hi H Q →
    ∃ T id, typeLookup (.type T) "__getitem__" = pure (some (.builtin id)) ∧ s.TypeIs v T ∧ wpAny (model X.prog X.w) X.A (getItem v (.ref sl)) (EP X pins σ Q) X.xe s
def tSl (r : V → Option Int → Option Int → Hp → VK → Prop) (te : TE) (tl th : TO) : TE := fun σ H Q => te σ H fun x H1 => tl σ H1 fun l H2 => th σ H2 fun u H3 => r x l u H3 Q
theorem pe_slice {r : V → Option Int → Option Int → Hp → VK → Prop} (hr : SlR X r) (he : PE X e te) (hl : PO X lo tl) (hu : PO X hi th) : PE X (.Subscript e (.Slice lo hi none p2) pos) (tSl r te tl th) := by
  with_unfolding_all
    intro pins s σ H Q I h
    refine Subscript_ (thn (he pins s σ H _ I h) fun v s1 ⟨x, H1, I1, r1, q1⟩ => ?_)
    refine wpAny_Slice (thn (hl pins s1 σ H1 _ I1 q1) fun vl s2 ⟨l, H2, I2, pl, q2⟩ => thn (hu pins s2 σ H2 _ I2 q2) fun vu s3 ⟨u, H3, I3, pu, q3⟩ => ?_)
    rw [evalPart_none]
    refine wpAny_pure ?_
    have I4 : Inv X pins σ H3 { s3 with heap := s3.heap.push { cls := .type "slice", data := .fields #[vl, vu, .none] } } := I3.kept (t' := s3.toks) fun b ob q => Heap.get?_push_of_some _ q
    obtain ⟨T, id, hT, ht, hg⟩ := hr pins { s3 with heap := s3.heap.push { cls := .type "slice", data := .fields #[vl, vu, .none] } } σ H3 x v vl vu l u s3.heap.objs.size Q I4 r1 (Heap.IsSliceOf.new ..) pl pu q3
    show wpAny (model X.prog X.w) X.A (subscriptTail e (.Slice lo hi none p2) v (.ref s3.heap.objs.size)) (EP X pins σ Q) X.xe { s3 with heap := s3.heap.push { cls := .type "slice", data := .fields #[vl, vu, .none] } }
    exact tail_any (ops := [.ref s3.heap.objs.size, v]) ht hT hg (by with_unfolding_all rfl)

def cutV (xs : List V) (lo hi : Option Int) : List V := (xs.drop (HT.sIx xs.length 0 lo)).take (HT.sIx xs.length xs.length hi - HT.sIx xs.length 0 lo)
theorem cutV_length (xs : List V) (lo hi : Option Int) : (cutV xs lo hi).length ≤ xs.length := by
  unfold cutV
  rw [List.length_take, List.length_drop]
  omega
/-! ### t < u, t + u -/
def rLtT (K : PySem.W.Frag) : R2 := fun x y H Q => ∃ a b ns ms, x = .ref a ∧ y = .ref b ∧ SqT K H a (ns.map V.int) ∧ SqT K H b (ms.map V.int) ∧ Q (.bl (HT.lexLt ns ms)) H
theorem op_ltT (hu : X.A.units < cLine) : OpR X (compareOp .Lt) (rLtT X.K) := by
  intro pins s σ H x y v u Q I rx ry h
  obtain ⟨a, b, ns, ms, rfl, rfl, ha, hb, q⟩ := h
  cases rx
  cases ry
  obtain ⟨its, r1, p1, _⟩ := I.tuple ha
  obtain ⟨its2, r2, p2, _⟩ := I.tuple hb
  have i1 : IntsAre its.toArray.toList ns := intsAre_of r1
  have i2 : IntsAre its2.toArray.toList ms := intsAre_of r2
  exact HT.lt_tupInts p1 p2 i1 i2 hu ⟨.bl (HT.lexLt ns ms), H, I, rfl, q⟩
end
end L2

namespace L2
open PySem PySem.Spec PyProof.Rows

/-! ### places -/
def ixN (n : Nat) (i : Int) : Option Nat := if 0 ≤ i then (if i < n then some i.toNat else none) else if -(n : Int) ≤ i then some (i + n).toNat else none
def atI {α : Type} (xs : List α) (i : Int) : Option α := (ixN xs.length i).bind fun j => xs[j]?
theorem ixN_seq {n : Nat} {i : Int} {j : Nat} (h : ixN n i = some j) : seqIndex? i n = some j ∧ j < n ∧ -(n : Int) ≤ i ∧ i < n := by
  unfold ixN at h
  by_cases h0 : 0 ≤ i
  · rw [if_pos h0] at h
    by_cases h1 : i < n
    · rw [if_pos h1] at h
      have e : i.toNat = j := Option.some.inj h
      exact ⟨by rw [seqIndex_of h0 h1, e], by omega, by omega, h1⟩
    · rw [if_neg h1] at h; cases h
  · rw [if_neg h0] at h
    by_cases h1 : -(n : Int) ≤ i
    · rw [if_pos h1] at h
      have e : (i + n).toNat = j := Option.some.inj h
      exact ⟨by rw [seqIndex_neg (by omega) h1, e], by omega, h1, by omega⟩
    · rw [if_neg h1] at h; cases h
theorem atI_get {α : Type} {xs : List α} {i : Int} {v : α} (h : atI xs i = some v) : ∃ j, seqIndex? i xs.length = some j ∧ xs[j]? = some v ∧ j < xs.length ∧ -(xs.length : Int) ≤ i ∧ i < xs.length := by
  unfold atI at h
  cases e : ixN xs.length i with
  | none => rw [e] at h; cases h
  | some j =>
    rw [e] at h
    obtain ⟨h1, h2, h3, h4⟩ := ixN_seq e
    exact ⟨j, h1, h, h2, h3, h4⟩
theorem atI_nat {α : Type} {xs : List α} {j : Nat} {v : α} (h : xs[j]? = some v) : atI xs (j : Int) = some v := by
  have hj : j < xs.length := (List.getElem?_eq_some_iff.mp h).1
  have e : ixN xs.length (j : Int) = some j := by
    unfold ixN
    rw [if_pos (by omega), if_pos (by omega)]; simp
  unfold atI; rw [e]; exact h
theorem atI_last {α : Type} (xs : List α) (v : α) : atI (xs ++ [v]) (-1) = some v := by
  have hl : (xs ++ [v]).length = xs.length + 1 := by simp
  have e : ixN (xs ++ [v]).length (-1) = some xs.length := by
    unfold ixN
    rw [hl, if_neg (by decide), if_pos (by omega)]
    congr 1
    omega
  unfold atI
  rw [e]
  show (xs ++ [v])[xs.length]? = some v
  simp

/-! ### what may be subscripted -/
def PlainIx (b : Expr) : Prop := ∀ o i, subscripted b false o i = operate [o, i] (getItem o i)
def IxR (X : Cx) (r : R2) : Prop :=
  ∀ (value slice : Expr) (pins : List (Addr × Obj)) (s : Shared) (σ : St) (H : Hp) (x y : V) (v u : Value) (Q : VK), Inv X pins σ H s → RelV x v → RelV y u → r x y H Q →
    subscripted slice false v u = operate [v, u] (getItem v u) → wpAny (model X.prog X.w) X.A (subscriptTail value slice v u) (EP X pins σ Q) X.xe s
def MtR (X : Cx) (id : String) (r : V → List V → Hp → VK → Prop) : Prop :=
  ∀ (pins : List (Addr × Obj)) (s : Shared) (σ : St) (H : Hp) (x : V) (xs : List V) (v : Value) (us : List Value) (Q : VK), Inv X pins σ H s → RelV x v → Vals xs us → r x xs H Q →
    wpAny (model X.prog X.w) X.A (call (.builtin id) (v :: us)) (EP X pins σ Q) X.xe s
section
variable {X : Cx} {a b : Expr} {ta tb : TE} {pos : Pos}
theorem pe_ix {r : R2} (hr : IxR X r) (ha : PE X a ta) (hb : PE X b tb) (hs : PlainIx b) : PE X (.Subscript a b pos) (tOp r ta tb) := by
  with_unfolding_all
    intro pins s σ H Q I h
    exact Subscript_ (binT ha hb I h fun v u s2 x y H2 I2 rx ry q => hr a b pins s2 σ H2 x y v u Q I2 rx ry q (hs _ _))

def rIxL (K : PySem.W.Frag) : R2 := fun x y H Q => ∃ p xs i v, x = .ref p ∧ y = .int i ∧ SqL K H p xs ∧ atI xs i = some v ∧ Q v H
def rIxT (K : PySem.W.Frag) : R2 := fun x y H Q => ∃ p xs i v, x = .ref p ∧ y = .int i ∧ SqT K H p xs ∧ atI xs i = some v ∧ Q v H
theorem ix_list : IxR X (rIxL X.K) := by
  intro value slice pins s σ H x y v u Q I rx ry h hs
  obtain ⟨p, xs, i, z, rfl, rfl, hq, he, q⟩ := h
  cases rx
  obtain ⟨t, rfl⟩ := ry
  obtain ⟨its, r, pl, hz⟩ := I.list hq
  obtain ⟨j, h1, h2, h3, h4, h5⟩ := atI_get he
  obtain ⟨w, ew, rw'⟩ := r.get h2
  have hl := r.length
  have hn := line63
  have fin : EP X pins σ Q w s := ⟨z, H, I, rw', q⟩
  by_cases h0 : 0 ≤ i
  · have hj : i.toNat = j := by
      rw [seqIndex_of h0 h5] at h1
      exact Option.some.inj h1
    exact item_listR pl.isList h0 (by omega) (by rw [hj]; simpa using ew) fin hs
  · have hj : (i + (its.toArray.size : Int)).toNat = j := by
      rw [seqIndex_neg (by omega) h4] at h1
      rw [List.size_toArray, ← hl]
      exact Option.some.inj h1
    exact subscriptTail_builtinR (x := w) pl.isList.typeIs slot_list_getitem.lookup
      (wpAny_getItem_list_neg (Q := fun r s' => r = w ∧ EP X pins σ Q r s') pl.isList (by omega) (by rw [List.size_toArray] <;> omega) (by omega) (by rw [hj]; simpa using ew) ⟨rfl, fin⟩) hs
theorem ix_tup : IxR X (rIxT X.K) := by
  intro value slice pins s σ H x y v u Q I rx ry h hs
  obtain ⟨p, xs, i, z, rfl, rfl, hq, he, q⟩ := h
  cases rx
  obtain ⟨t, rfl⟩ := ry
  obtain ⟨its, r, pl, hz⟩ := I.tuple hq
  obtain ⟨j, h1, h2, h3, h4, h5⟩ := atI_get he
  obtain ⟨w, ew, rw'⟩ := r.get h2
  have hl := r.length
  have hn := line63
  have fin : EP X pins σ Q w s := ⟨z, H, I, rw', q⟩
  exact subscriptTail_builtinR (x := w) pl.typeIs slot_tuple_getitem.lookup
    (getItem_tuple (j := j) (Q := fun r s' => r = w ∧ EP X pins σ Q r s') pl (by omega) (by omega) (by rw [List.size_toArray, ← hl]; exact h1) (by simpa using ew) ⟨rfl, fin⟩) hs
/-! ### xs[i] = v, any sign -/
/-! ### slices -/
theorem slice_bounds (lo hi : Option Int) (n : Nat) : (sliceBounds lo hi none n).1 = ((HT.sIx n 0 lo : Nat) : Int) ∧ (sliceBounds lo hi none n).2.1 = ((HT.sIx n n hi : Nat) : Int) ∧ (sliceBounds lo hi none n).2.2 = 1 := by
  refine ⟨?_, ?_, rfl⟩
  · cases lo with
    | none => simp [sliceBounds, HT.sIx]
    | some i =>
      simp only [sliceBounds, HT.sIx, Option.getD_none, show (1 : Int) > 0 by decide, if_true]
      by_cases h : i < 0
      · simp only [h, if_true] <;> omega
      · simp only [h, if_false] <;> omega
  · cases hi with
    | none => simp [sliceBounds, HT.sIx]
    | some i =>
      simp only [sliceBounds, HT.sIx, Option.getD_none, show (1 : Int) > 0 by decide, if_true]
      by_cases h : i < 0
      · simp only [h, if_true] <;> omega
      · simp only [h, if_false] <;> omega
theorem slicePick_cut (its : List Value) (lo hi : Option Int) : slicePick its.toArray lo hi none = ((its.drop (HT.sIx its.length 0 lo)).take (HT.sIx its.length its.length hi - HT.sIx its.length 0 lo)).toArray := by
  obtain ⟨h1, h2, h3⟩ := slice_bounds lo hi its.toArray.size
  unfold slicePick
  rw [h1, h2, h3]
  simp only [sliceRange_one, pick_run, List.size_toArray] <;> rfl
def rSlL (K : PySem.W.Frag) : V → Option Int → Option Int → Hp → VK → Prop := fun x lo hi H Q => ∃ a xs, x = .ref a ∧ SqL K H a xs ∧ ∀ p, H p = none → Q (.ref p) (upd H p (.lst (cutV xs lo hi)))
theorem sl_list : SlR X (rSlL X.K) := by
  intro pins s σ H x v vl vu lo hi sl Q I rx hs pl pu h
  obtain ⟨a, xs, rfl, hx, q⟩ := h
  cases rx
  obtain ⟨its, r, ht, hz⟩ := I.list hx
  have hlen := r.length
  refine ⟨"list", _, slot_list_getitem.lookup, ht.isList.typeIs, ?_⟩
  refine wpAny_getItem_list_slice ht.isList hs pl pu .none (by simp) ?_ (by rw [List.size_toArray] <;> omega)
  rw [slicePick_cut, ← hlen]
  refine ⟨.ref s.heap.objs.size, _, I.laid (t' := s.toks) (o := .lst (cutV xs lo hi)) (fun b ob q => Heap.get?_push_of_some _ q) (Nat.le_refl _) ?_, rfl, q _ (I.hok.fresh (Nat.le_refl _))⟩
  exact ⟨Nat.le_trans (cutV_length xs lo hi) hz, _, 0, (r.drop (HT.sIx xs.length 0 lo)).take (HT.sIx xs.length xs.length hi - HT.sIx xs.length 0 lo), Heap.get?_push_size _ rfl⟩

/-! ### in, not in: flat items -/
def flatV : V → Bool
  | .non => true
  | .bl _ => true
  | .int _ => true
  | .str _ => true
  | _ => false
def eqV : V → V → Bool
  | .non, .non => true
  | .bl a, .bl b => a == b
  | .bl a, .int b => (if a then 1 else 0) == b
  | .int a, .bl b => a == (if b then 1 else 0)
  | .int a, .int b => a == b
  | .str a, .str b => a == b
  | _, _ => false
theorem eqAt_V {A : Around} {s : Shared} {y x : V} {u v : Value} (ry : RelV y u) (rx : RelV x v) (fy : flatV y = true) (fx : flatV x = true) : SeqAt.EqAt A s u v (eqV y x) := by
  cases y with
  | non =>
    cases ry
    cases x with
    | non => cases rx; exact SeqAt.EqAt.same _
    | bl b => cases rx; exact SeqAt.EqAt.none_bool b
    | int b => obtain ⟨t, rfl⟩ := rx; exact SeqAt.EqAt.none_int b t
    | str b => obtain ⟨t, rfl⟩ := rx; exact SeqAt.EqAt.none_str b t
    | _ => exact absurd (show false = true from fx) Bool.false_ne_true
  | bl a =>
    cases ry
    cases x with
    | non => cases rx; exact SeqAt.EqAt.bool_none a
    | bl b => cases rx; exact SeqAt.EqAt.bool_bool a b
    | int b => obtain ⟨t, rfl⟩ := rx; exact SeqAt.EqAt.bool_int a b t
    | str b => obtain ⟨t, rfl⟩ := rx; exact SeqAt.EqAt.bool_str a b t
    | _ => exact absurd (show false = true from fx) Bool.false_ne_true
  | int a =>
    obtain ⟨t', rfl⟩ := ry
    cases x with
    | non => cases rx; exact SeqAt.EqAt.int_none a t'
    | bl b => cases rx; exact SeqAt.EqAt.int_bool a t' b
    | int b => obtain ⟨t, rfl⟩ := rx; exact SeqAt.EqAt.int_int a t' b t
    | str b => obtain ⟨t, rfl⟩ := rx; exact SeqAt.EqAt.int_str a t' b t
    | _ => exact absurd (show false = true from fx) Bool.false_ne_true
  | str a =>
    obtain ⟨t', rfl⟩ := ry
    cases x with
    | non => cases rx; exact SeqAt.EqAt.str_none a t'
    | bl b => cases rx; exact SeqAt.EqAt.str_bool a t' b
    | int b => obtain ⟨t, rfl⟩ := rx; exact SeqAt.EqAt.str_int a t' b t
    | str b => obtain ⟨t, rfl⟩ := rx; exact SeqAt.EqAt.str_str a t' b t
    | _ => exact absurd (show false = true from fx) Bool.false_ne_true
  | _ => exact absurd (show false = true from fy) Bool.false_ne_true
def eqU (x : V) (u : Value) : Bool := match u with
  | .none => eqV .non x
  | .bool b => eqV (.bl b) x
  | .int i _ => eqV (.int i) x
  | .str z _ => eqV (.str z) x
  | _ => false
theorem eqU_of {x y : V} {u : Value} (r : RelV y u) (f : flatV y = true) : eqU x u = eqV y x := by
  cases y with
  | non => cases r; rfl
  | bl b => cases r; rfl
  | int i => obtain ⟨t, rfl⟩ := r; rfl
  | str z => obtain ⟨t, rfl⟩ := r; rfl
  | _ => exact absurd (show false = true from f) Bool.false_ne_true
theorem any_eqU {x : V} : ∀ {xs : List V} {us : List Value}, Vals xs us → xs.all flatV = true → us.any (eqU x) = xs.any fun y => eqV y x
  | _, _, .nil, _ => rfl
  | y :: xs, u :: us, .cons r t, f => by
    rw [List.all_cons, Bool.and_eq_true] at f
    rw [List.any_cons, List.any_cons, eqU_of r f.1, any_eqU t f.2]
theorem mem_eqAt {A : Around} {s : Shared} {x : V} {v : Value} (rx : RelV x v) (fx : flatV x = true) : ∀ {xs : List V} {us : List Value}, Vals xs us → xs.all flatV = true → ∀ u ∈ us, SeqAt.EqAt A s u v (eqU x u)
  | _, _, .nil, _ => fun u hu => by cases hu
  | y :: xs, u :: us, .cons r t, f => fun u' hu => by
    rw [List.all_cons, Bool.and_eq_true] at f
    rcases List.mem_cons.mp hu with rfl | hu
    · rw [eqU_of r f.1]; exact eqAt_V r rx f.1 fx
    · exact mem_eqAt rx fx t f.2 u' hu
def inV (x : V) (xs : List V) : Bool := xs.any fun y => eqV y x
def rIn (K : PySem.W.Frag) (neg : Bool) : R2 := fun x y H Q => ∃ p xs, y = .ref p ∧ (SqL K H p xs ∨ SqT K H p xs) ∧ flatV x = true ∧ xs.all flatV = true ∧ Q (.bl (if neg then !inV x xs else inV x xs)) H
theorem op_in_seq : OpR X (compareOp .In) (rIn X.K false) := by
  intro pins s σ H x y v u Q I rx ry h
  obtain ⟨p, xs, rfl, hq, fx, fs, q⟩ := h
  cases ry
  rcases hq with hq | hq
  · obtain ⟨its, r, pl, hz⟩ := I.list hq
    refine SeqAt.in_listAt (eqU x) pl.isList (fun w hw => mem_eqAt rx fx r fs w (by simpa using hw)) ⟨.bl _, H, I, rfl, ?_⟩
    rw [show its.toArray.any (eqU x) = its.any (eqU x) by simp, any_eqU r fs]
    exact q
  · obtain ⟨its, r, pl, hz⟩ := I.tuple hq
    refine SeqAt.in_tupleAt (eqU x) pl (fun w hw => mem_eqAt rx fx r fs w (by simpa using hw)) ⟨.bl _, H, I, rfl, ?_⟩
    rw [show its.toArray.any (eqU x) = its.any (eqU x) by simp, any_eqU r fs]
    exact q
theorem op_notIn_seq : OpR X (compareOp .NotIn) (rIn X.K true) := by
  intro pins s σ H x y v u Q I rx ry h
  obtain ⟨p, xs, rfl, hq, fx, fs, q⟩ := h
  cases ry
  rcases hq with hq | hq
  · obtain ⟨its, r, pl, hz⟩ := I.list hq
    refine SeqAt.notIn_listAt (eqU x) pl.isList (fun w hw => mem_eqAt rx fx r fs w (by simpa using hw)) ⟨.bl _, H, I, rfl, ?_⟩
    rw [show its.toArray.any (eqU x) = its.any (eqU x) by simp, any_eqU r fs]
    exact q
  · obtain ⟨its, r, pl, hz⟩ := I.tuple hq
    refine SeqAt.notIn_tupleAt (eqU x) pl (fun w hw => mem_eqAt rx fx r fs w (by simpa using hw)) ⟨.bl _, H, I, rfl, ?_⟩
    rw [show its.toArray.any (eqU x) = its.any (eqU x) by simp, any_eqU r fs]
    exact q
/-! ### len, list(x), tuple(x) of any list or tuple that is read -/
theorem call_len_seq : CallR X (.builtin "len") (fun xs H Q => ∃ p ys, xs = [.ref p] ∧ (SqL X.K H p ys ∨ SqT X.K H p ys) ∧ Q (.int ys.length) H) := by
  intro pins s σ H xs us Q I r h
  obtain ⟨p, ys, rfl, hq, q⟩ := h
  obtain ⟨u, rfl, rx⟩ := vals1 r
  cases rx
  have hn := line63
  rcases hq with hq | hq
  · obtain ⟨its, r', pl, hz⟩ := I.list hq
    have hlen := r'.length
    exact Calls.call_len_list pl.isList (by simp only [List.size_toArray] <;> omega) ⟨.int ys.length, H, I.tok _, ⟨s.toks + 1, by rw [List.size_toArray, hlen]⟩, q⟩
  · obtain ⟨its, r', pl, hz⟩ := I.tuple hq
    have hlen := r'.length
    exact len_tuple pl (by simp only [List.size_toArray] <;> omega) ⟨.int ys.length, H, I.tok _, ⟨s.toks + 1, by rw [List.size_toArray, hlen]⟩, q⟩
/-! ### the call of a builtin's method: o.m(..) -/
def tyV (K : PySem.W.Frag) (T : String) (x : V) (H : Hp) : Prop := match x with
  | .str _ => T = "str"
  | .int _ => T = "int"
  | .ref p => (T = "list" ∧ ∃ xs, SqL K H p xs) ∨ (T = "tuple" ∧ ∃ o, K.lookup p = some o ∧ o.cls = .type "tuple" ∧ o.dict = none) ∨
      (T = "dict" ∧ ((∃ kvs, H p = some (.dK kvs)) ∨ ∃ kvs, H p = some (.dT kvs))) ∨ (T = "set" ∧ ∃ S n, H p = some (.set S n))
  | _ => False
theorem tyV_is {pins : List (Addr × Obj)} {σ : St} {H : Hp} {s : Shared} {T : String} {x : V} {v : Value} (I : Inv X pins σ H s) (r : RelV x v) (ty : tyV X.K T x H) :
    s.TypeIs v T ∧ ∀ a, v = .ref a → ∃ ob, s.heap.get? a = some ob ∧ ob.dict = none := by
  cases x with
  | str z =>
    obtain ⟨t, rfl⟩ := r
    cases (show T = "str" from ty)
    exact ⟨typeIs_str s z t, fun _ e => nomatch e⟩
  | int i =>
    obtain ⟨t, rfl⟩ := r
    cases (show T = "int" from ty)
    exact ⟨typeIs_int s i t, fun _ e => nomatch e⟩
  | ref p =>
    cases r
    rcases ty with ⟨rfl, xs, hq⟩ | ⟨rfl, o, hk, hc, hd⟩ | ⟨rfl, hk⟩ | ⟨rfl, S, n, hk⟩
    · obtain ⟨its, _, pl, _⟩ := I.list hq
      refine ⟨pl.isList.typeIs, fun a e => ?_⟩
      cases e
      obtain ⟨o, n, e, c, hd, _⟩ := pl
      exact ⟨o, e, hd⟩
    · refine ⟨⟨o, I.kIn p o hk, hc⟩, fun a e => ?_⟩
      cases e
      exact ⟨o, I.kIn _ o hk, hd⟩
    · have z : ∃ o, s.heap.get? p = some o ∧ o.ExactDict := by
        rcases hk with ⟨kvs, hk⟩ | ⟨kvs, hk⟩
        · obtain ⟨_, _, _, _, o, _, _, e, ex, _⟩ := I.hok p _ hk
          exact ⟨o, e, ex⟩
        · obtain ⟨_, _, _, _, o, _, _, e, ex, _⟩ := I.hok p _ hk
          exact ⟨o, e, ex⟩
      obtain ⟨o, e, ex⟩ := z
      refine ⟨⟨o, e, ex.1⟩, fun a e2 => ?_⟩
      cases e2
      exact ⟨o, e, ex.2.1⟩
    · obtain ⟨o, _, _, _, e, ex, _⟩ := I.hok p _ hk
      refine ⟨⟨o, e, ex.1⟩, fun a e2 => ?_⟩
      cases e2
      exact ⟨o, e, ex.2.1⟩
  | _ => exact False.elim ty
def tBM0 (K : PySem.W.Frag) (T : String) (r : V → List V → Hp → VK → Prop) (to : TE) : TE := fun σ H Q => to σ H fun x H1 => tyV K T x H1 ∧ r x [] H1 Q
def tBM (K : PySem.W.Frag) (T : String) (r : V → List V → Hp → VK → Prop) (to : TE) (t : TA) : TE := fun σ H Q => to σ H fun x H1 => tyV K T x H1 ∧ t σ H1 fun xs H2 => r x xs H2 Q
variable {o e : Expr} {es : List Expr} {to : TE} {t : TA} {name : Str} {apos cpos : Pos} {T id : String} {r : V → List V → Hp → VK → Prop}
theorem pe_bm0 (pa : PlainAttrs T) (slot : Slot T name id) (hty : typeOf (.builtin id) = pure (.type "method_descriptor")) (hm : MtR X id r) (ho : PE X o to)
    (hbase : attributeBase o name X.env (eval o X.env) = eval o X.env := by rfl) (hline : (apos.endLine == cpos.line) = true := by rfl) : PE X (.Call (.Attribute o name apos) [] [] cpos) (tBM0 X.K T r to) := by
  with_unfolding_all
    intro pins s σ H Q I h
    refine wpAny_Call_method0_late hbase hline (thn (ho pins s σ H _ I h) fun v s1 ⟨x, H1, I1, r1, ty, q1⟩ => ?_)
    obtain ⟨h1, h2⟩ := tyV_is I1 r1 ty
    exact ⟨T, id, pa, slot, hty, h1, h2, Calls.callWith_builtin rfl (PySem.evalArgs_none (hm pins s1 σ H1 x [] v [] Q I1 r1 .nil q1))⟩
theorem pe_bm (pa : PlainAttrs T) (slot : Slot T name id) (hty : typeOf (.builtin id) = pure (.type "method_descriptor")) (hm : MtR X id r) (ho : PE X o to) (ha : PA X (e :: es) t)
    (hbase : attributeBase o name X.env (eval o X.env) = eval o X.env := by rfl)
    (hfew : ((backTo cpos (starEach (e :: es) X.env)).all (fun x => !x.1) && (backToKw cpos (keywordEach [] X.env)).all (fun x => x.1.isSome)
      && decide ((e :: es).length + ([] : List Keyword).length + (if ([] : List Keyword).isEmpty then 0 else 1) < 30)) = true := by rfl)
    (hline : (apos.endLine == cpos.line) = true := by rfl) (hs : starEach (e :: es) X.env = (false, eval e X.env) :: starEach es X.env := by rfl) (hplain : (backTo cpos (starEach es X.env)).any (·.1) = false := by rfl) :
    PE X (.Call (.Attribute o name apos) (e :: es) [] cpos) (tBM X.K T r to t) := by
  with_unfolding_all
    intro pins s σ H Q I h
    refine wpAny_Call_method_late hbase hfew hline rfl (thn (ho pins s σ H _ I h) fun v s1 ⟨x, H1, I1, r1, ty, q1⟩ => ?_)
    obtain ⟨h1, h2⟩ := tyV_is I1 r1 ty
    refine ⟨T, id, pa, slot, hty, h1, h2, ?_⟩
    have hA := ha cpos pins s1 σ H1 _ I1 q1
    rw [hs] at hA ⊢
    refine Calls.callWith_builtin (by show (false || (backTo cpos (starEach es X.env)).any (·.1)) = false; rw [hplain] <;> rfl) (Calls.evalArgs_plain ?_)
    exact thn hA fun us s2 ⟨vs, H2, I2, r2, q2⟩ => hm pins s2 σ H2 x vs v us Q I2 r1 r2 q2
/- xs.append(e), list.index on a module's tuple .. are MtR facts of 06m -/
end
end L2

namespace L2
open PySem PySem.Spec PyProof.Rows

def MtM (X : Cx) (id : String) (r : V → List V → Hp → VK → Prop) : Prop :=
  ∀ (pins : List (Addr × Obj)) (s : Shared) (σ : St) (H : Hp) (x : V) (xs : List V) (v : Value) (us : List Value) (Q : VK), Inv X pins σ H s → RelV x v → Vals xs us → r x xs H Q →
    wpAny (model X.prog X.w) X.A (call (.builtin id) (v :: us)) (EP X pins σ Q) X.xe s

/-! ### lists of values -/
theorem Vals.one : ∀ {x : V} {us : List Value}, Vals [x] us → ∃ u, us = [u] ∧ RelV x u
  | _, _, .cons r .nil => ⟨_, rfl, r⟩
theorem Vals.zero : ∀ {us : List Value}, Vals [] us → us = []
  | _, .nil => rfl
section
variable {X : Cx} {pins : List (Addr × Obj)} {σ : St} {H : Hp} {s : Shared} {l b : Addr} {xs ys zs : List V}

/-! ### the two steps: a tracked list is rewritten, a new list is laid -/
theorem Inv.lset {its its' : List Value} {n : Nat} {f : Array Value → Array Value} {t' : Nat} (I : Inv X pins σ H s) (hH : H l = some (.lst xs))
    (e : s.heap.get? l = some { cls := .type "list", data := .seq its.toArray n }) (hf : f its.toArray = its'.toArray) (hv : Vals ys its') (hz : ys.length ≤ sizeLine) :
    Inv X pins σ (upd H l (.lst ys)) { s with heap := s.heap.update l (Obj.mapSeq f), toks := t' } := by
  have q := PySem.IsL.update e f
  rw [hf] at q
  refine I.write (x := l) (e := l) (by rw [hH]; exact trivial) (.inl rfl) (fun b' u hb hu => (Heap.get?_update_other s.heap (Obj.mapSeq f) (Ne.symm hb)).trans hu) ⟨_, q⟩ ?_
  exact ⟨hz, its', _, hv, q⟩
theorem Inv.lstM (I : Inv X pins σ H s) (hH : H l = some (.lst xs)) : xs.length ≤ sizeLine ∧ ∃ (its : List Value) (n : Nat), Vals xs its ∧ xs.length = its.length ∧ s.heap.get? l = some { cls := .type "list", data := .seq its.toArray n } := by
  obtain ⟨z, its, n, r, e⟩ := I.hok l _ hH
  exact ⟨z, its, n, r, r.length, e⟩

end

section
variable {X : Cx}

/-! ### methods -/
def rAppend : V → List V → Hp → VK → Prop := fun x vs H Q => ∃ l xs y, x = .ref l ∧ vs = [y] ∧ H l = some (.lst xs) ∧ xs.length < sizeLine ∧ Q .non (upd H l (.lst (xs ++ [y])))
theorem mt_append : MtM X "list.append" rAppend := by
  intro pins s σ H x vs v us Q I rx rv h
  obtain ⟨l, xs, y, rfl, rfl, hH, hz, q⟩ := h
  cases rx
  obtain ⟨u, rfl, ru⟩ := rv.one
  obtain ⟨z, its, n, r, hl, e⟩ := I.lstM hH
  refine call_meets F.slot_list_append ⟨_, e, rfl⟩ F.entry_list_append (F.args_list_append_2 _ _) (PySem.list_append l its.toArray n u (by rw [List.size_toArray]; omega)) ⟨e, ?_⟩
  refine ⟨.non, _, I.lset (its' := its ++ [u]) hH e (by simp) (r.append (.cons ru .nil)) ?_, rfl, q⟩
  rw [List.length_append, List.length_singleton]
  omega

/-! ### list + list, list += list, list * int -/
/-! ### del xs[i] -/
end

/-! ### xs[a:b] = ys -/
section
variable {prog : Program} {w : World} {A : Around} {E : Value → Shared → Prop} {s : Shared}
set_option maxRecDepth 100000 in
end

section
variable {X : Cx}
end
end L2

namespace Att
open PySem PySem.W PySem.Calls PyProof.Rows

/-! ### the script -/
theorem ints_of_wellAll {P : Params} {h : Heap} : ∀ (ns : List Int) (vs : List Value), WellAll P h vs (ns.map WData.int) → IntsAre vs ns := by
  intro ns
  induction ns with
  | nil =>
    intro vs w
    rw [List.map_nil] at w
    cases w
    exact .nil
  | cons n ns ih =>
    intro vs w
    rw [List.map_cons] at w
    cases w with
    | cons a b =>
      cases a
      exact .cons _ _ (ih _ b)

theorem script_of {l : OpenLaw} {n : Nat} (hn : l.most = some n) {P : Params} {h : Heap} {args : List WData} {vals : List Value}
    (hpre : l.row.toRowW.claim.pre args = true) (hwl : WellAll P h vals args) :
    ∃ a vs ns, vals = [Value.ref a] ∧ args = [WData.list (ns.map WData.int)] ∧ h.get? a = some { cls := .type "list", data := .seq vs.toArray } ∧ IntsAre vs ns ∧ ns.length ≤ n := by
  have hsh : WShape.hasAll [] args [.list .int] = true := (pre_splitW hpre).1
  have hc : l.pre.holds [] { args := args } = true := (pre_splitW hpre).2
  obtain ⟨d, r, rfl, h1, h2⟩ := hasAllW_cons hsh
  obtain rfl := hasAllW_nil h2
  obtain ⟨xs, rfl, h3⟩ := hasW_list h1
  obtain ⟨ns, rfl⟩ := items_int h3
  have hlen : ns.length ≤ n := by
    unfold OpenLaw.pre at hc
    have h4 : (WTm.not (.lt (.lit (.int (n : Int))) (.len (.arg 0)))).holds [] { args := [.list (ns.map .int)] } = true := by
      have h4 := (holds_andW hc).1
      rw [hn] at h4
      exact h4
    have h5 := condW_of h4 (w_not (w_lt w_lit (w_len_list (w_arg rfl))))
    rw [List.length_map] at h5
    refine Nat.le_of_not_lt fun q => ?_
    have q' : (n : Int) < ((ns.length : Nat) : Int) := by omega
    first
      | (rw [decide_eq_true q'] at h5; exact absurd h5 (by decide))
      | (simp at h5; omega)
  cases hwl with
  | cons w1 w2 =>
    cases w2
    cases w1 with
    | list ho hall => exact ⟨_, _, ns, rfl, rfl, ho, ints_of_wellAll ns _ hall, hlen⟩

theorem post_true (l : OpenLaw) (args : List WData) : l.row.toRowW.claim.post args (.bool true) args = true :=
  postW_of (r := l.row.toRowW) (X := (true == true))
    (show WShape.has [] (.bool true) .bool = true by first | rfl | decide | simp [WShape.has, WShape.arms, WShape.armsAll])
    (show (WTm.eq .res (.lit (.bool true))).value [] { args := args, res := some (.bool true), after := args } = some (.bool (true == true)) from w_eq_bool (w_res rfl) w_lit) rfl

/-! ### the attachment: holds_open's last premise (the goal 'hc' behind k_head) from a wpAny of the law's body -/
theorem attach_call {l : OpenLaw} {n : Nat} {q : Program} {loose : List Str} {XP : (Str → Option Value) → Heap → Prop} {YP : World → Heap → Prop} {d : DefRec}
    (hn : l.most = some n) (hdf : d.params.defaults = [])
    (call : ∀ (w : World) (s₀ s₁ : Shared) (mg mb : Str → Option Value) (fa : Addr) (o : Obj) (pm cd doc : Value) (a : Addr) (vs : List Value) (ns : List Int),
      Ground q loose [] XP w s₀ mg mb s₁.heap → YP w s₁.heap →
      s₁.heap.get? fa = some o → o.data = .func (docDef d.name d.params d.body d.scope pm cd doc) → s₁.heap.CodeRec cd d.name → mg d.name = some (.ref fa) →
      s₁.heap.get? a = some { cls := .type "list", data := .seq vs.toArray } → IntsAre vs ns → ns.length ≤ n → s₁.gens = #[] →
      codeAny (model l.prog w) callerA (.call (.ref fa) ⟨[.ref a], []⟩) (fun r s' => r = .ok (.ret (.bool true)) ∧ OldK s₁.heap s'.heap ∧ s'.os = s₁.os ∧ AllBare s'.gens) s₁) :
    WalkO q loose XP YP l.row.toRowW d [] (fun f vs => PySem.call f vs) := by
  intro w s₀ s₁ mg mb G Y fa o pm cd doc dV kV ho hd hcd hD hmg hg args vals as hpre hlay hrd hwl hlo
  obtain rfl : dV = .none := Dflts.none hD hdf
  obtain rfl : kV = .none := Dflts.noKw hD
  obtain ⟨a, vs, ns, rfl, rfl, hobj, hints, hlen⟩ := script_of hn hpre hwl
  refine enter_call (codeAny_mono (call w s₀ s₁ mg mb fa o pm cd doc a vs ns G Y ho (fd_plain hd) hcd hmg hobj hints hlen hg) fun r s' hq => ?_)
  obtain ⟨rfl, h2, h3, h4⟩ := hq
  exact ⟨.inl ⟨.bool true, .bool true, [], rfl, fun _ => rfl, .bool true, post_true l _, fun _ => ⟨List.Pairwise.nil, fun _ hm => (nomatch hm)⟩⟩, h2, h3, h4⟩

/-! ### rules over ANY heap (no ledger) from facts about the written part K: the library's own take a ledger (News) for what they write -/
section
variable {prog : Program} {w : World} {A : Around} {E : Value → Shared → Prop} {s : Shared} {K : Frag}

/-! the whole heap as the ledger: makes every rule that writes through a ledger a rule over any heap -/
def ledger (h : Heap) (L d : Addr) : List (Addr × Obj) := (List.range h.objs.size).filterMap fun a => if a = L ∨ a = d then none else (h.get? a).map fun o => (a, o)
end
end Att

namespace L2
open PySem PySem.Spec PyProof.Rows

theorem vals_ints : ∀ {vs : List Value} {ns : List Int}, IntsAre vs ns → Vals (ns.map V.int) vs
  | _, _, .nil => .nil
  | _, _, .cons n t h => .cons ⟨t, rfl⟩ (vals_ints h)

end L2

namespace L2
open PySem PySem.Spec PyProof.Rows

abbrev KOf {K : PySem.W.Frag} {h : Heap} (_ : K.In h) : PySem.W.Frag := K

end L2

/- THE LAST THEOREM (shape; LID, My.* are yours):
   My.Adr: a structure of the addresses that your layer names (classes, functions); My.Txt K t: a structure (Prop) of the equations over K;
   My.txt_mk : {K} {implicit addresses ..} (e1 : nsIn K mainGlobals "law" = some (some (.ref f))) (e2 : K.lookup f = some ⟨oc, od, .func (fnOf "law" "law" params body scope dV kV doc pm an cdv ct), sl⟩) (e3 : codeIn K cdv "law" = true) .. : ∃ t, My.Txt K t

set_option maxRecDepth 100000 in
set_option maxHeartbeats 0 in
theorem PySem.Challenge.cw_LID_holds : PySem.Challenge.rw_LID.Holds := by
  w_on; o_law; k_head; (case hw => w_witness2)
  k_fill
  refine L2.walk_of (l := PySem.Challenge.rw_LID) (n := 63) (k := 40) (x := "script") (CX := fun w => ..) (sp := fun _ => My.sp_law) rfl (by decide) rfl ⟨rfl, by decide, by decide⟩ (fun w h Y => PySem.W.kIn_of Y) ?F ?S ?C
  case F =>
    intro w mg fa h KX G hmg
    have T : ∃ t, My.Txt (L2.KOf KX) t := by
      dsimp only [L2.KOf]                          -- K must stand as «<heap const> w.params» for k_is
      refine' My.txt_mk ?e1 ?e2 ?e3 ..
      (case e1 => PySem.W.k_is)                    -- in the order: a name -> its address -> its object -> its parts
      (case e2 => PySem.W.k_is)
      ..
    obtain ⟨t, T⟩ := T
    have e0 := hmg.symm.trans (PySem.W.mg_of KX G T.law)
    cases e0                                       -- fa is the law's own address
    exact ⟨_, fun s u => .of_eq rfl, fun base kb nb => My.law_fn T kb nb⟩     -- if «.of_eq rfl» comes too early: refine' ⟨_, ?b, fun base kb nb => My.law_fn T kb nb⟩; exact fun s u => .of_eq rfl
  case S => exact fun w H a ns hl hO hS => ..
  case C => exact ..
(the tactic k_is has no namespace: write k_is) -/

/-! SHORT WORDS over the layer: a def of the text, its body, what a loop and a test want. -/
namespace L2
open PySem PySem.Spec PyProof.Rows

/-! ### the text by places -/
def defArgs (s : Stmt) : Arguments := match s with
  | .FunctionDef _ a _ _ _ _ _ _ _ _ => a
  | _ => { posonlyargs := [], args := [], vararg := none, kwonlyargs := [], kw_defaults := [], kwarg := none, defaults := [] }
def defBody (s : Stmt) : List Stmt := match s with
  | .FunctionDef _ _ b _ _ _ _ _ _ _ => b
  | _ => []
def defScope (s : Stmt) : Scope := match s with
  | .FunctionDef _ _ _ _ _ _ sc _ _ _ => sc
  | _ => { kind := .function, names := [], isGenerator := false, isCoroutine := false }

/-! ### no exception leaves a def -/
abbrev CX0 : CXT := fun _ _ _ _ _ _ => False
abbrev E0 : XK := fun _ _ _ => False
theorem pass0 {X : Cx} : Passes CX0 X E0 := fun _ _ _ _ _ _ _ h => h.elim

/-! ### a def (or method) of the text as it stands behind the top -/
structure Fun (K : PySem.W.Frag) (x qual : Str) (st : Stmt) (f : Addr) (fd : FuncData) : Prop where
  ex : ∃ (oc : Value) (od : Option Addr) (kV doc pm : Value) (an : Option Addr) (cdv ct : Value) (osl : Array (Option Value)),
    fd = PySem.W.fnOf x qual (defArgs st) (defBody st) (defScope st) .none kV doc pm an cdv ct ∧ K.lookup f = some ⟨oc, od, .func fd, osl⟩ ∧ PySem.W.codeIn K cdv qual = true
  kp : PySem.W.keepIn K (.ref f) = true
section
variable {P : Program} {w : World} {K : PySem.W.Frag} {mg : Str → Option Value} {base : Heap}
theorem Fun.ok {x qual : Str} {st : Stmt} {f : Addr} {fd : FuncData} {N ps : List Str} {k : Nat} {sp : Sp} (F : Fun K x qual st f fd) (S : FnScope N ps (defScope st)) (len : ∀ vs H Q E, sp vs H Q E → vs.length = ps.length)
    (hbody : ∀ (cdv : Value) (A : Around) (outer : List Env) (s : Shared) (H : Hp) (vs : List V) (Q : VK) (E : XK), Room k (A.deeper (envOfC qual (defScope st) s.heap.objs.size f cdv)) → sp vs H Q E →
      ∃ t, PSs (cxOf CX0 P w K mg base N qual (defScope st) f cdv A outer s H E).nox (defBody st) t ∧ t { nx := fun _ H' => Q .non H', rt := Q } (start N vs) H) : FnOk P w K mg base CX0 (k + 1) f fd ps sp := by
  obtain ⟨oc, od, kV, doc, pm, an, cdv, ct, osl, rfl, lk, hcd⟩ := F.ex
  refine fn_of lk hcd S len fun A outer s H vs Q E hr hsp => ?_
  obtain ⟨t, h, q⟩ := hbody cdv A outer s H vs Q E hr hsp
  exact ⟨t, h.nox, q⟩
theorem Fun.binds {x qual : Str} {st : Stmt} {f : Addr} {fd : FuncData} {ps : List Str} (F : Fun K x qual st f fd)
    (h : ∀ (kV doc pm : Value) (an : Option Addr) (cdv ct : Value) (us : List Value), us.length = ps.length → bindArgs (PySem.W.fnOf x qual (defArgs st) (defBody st) (defScope st) .none kV doc pm an cdv ct) ⟨us, []⟩ = pure (ps.zip us)) : Binds K fd ps [] := by
  obtain ⟨oc, od, kV, doc, pm, an, cdv, ct, osl, rfl, lk, hcd⟩ := F.ex
  exact .all (h kV doc pm an cdv ct)
theorem fun_mk {x qual : Str} {st : Stmt} {f : Addr} {oc : Value} {od an : Option Addr} {osl : Array (Option Value)} {kV doc pm cdv ct : Value} (l : K.lookup f = some ⟨oc, od, .func (PySem.W.fnOf x qual (defArgs st) (defBody st) (defScope st) .none kV doc pm an cdv ct), osl⟩)
    (c : PySem.W.codeIn K cdv qual = true) (k : PySem.W.keepIn K (.ref f) = true) : Fun K x qual st f (PySem.W.fnOf x qual (defArgs st) (defBody st) (defScope st) .none kV doc pm an cdv ct) := ⟨⟨oc, od, kV, doc, pm, an, cdv, ct, osl, rfl, l, c⟩, k⟩
end
theorem small1000 {n : Nat} (h : n ≤ 1000) : n < sizeLine := Nat.lt_of_le_of_lt h (by decide)

/-! ### expressions in short: the name that stands in the i-th slot -/
section
variable {X : Cx}
theorem pv (i : Nat) {x : Str} {pos : Pos} (hN : X.N[i]? = some x := by rfl) (hv : Vis X.env.scope x := by first | exact Or.inl rfl | exact Or.inr (Or.inl rfl) | exact Or.inr (Or.inr rfl)) (hd : (x == ("__debug__" : Str)) = false := by decide)
    (hcd : (x == ("__classdict__" : Str)) = false := by decide) : PE X (.Name x pos) (tVar i) := pe_var hN hv hd hcd
end

/-! ### tests -/
theorem iteF {A B : Prop} (h : B) : if false = true then A else B := by
  rw [if_neg Bool.false_ne_true]
  exact h
theorem iteT {A B : Prop} (h : A) : if true = true then A else B := by
  rw [if_pos rfl]
  exact h
theorem ite2 {c A B : Prop} [Decidable c] (h1 : c → A) (h2 : ¬ c → B) : if c then A else B := by
  by_cases h : c
  · rw [if_pos h]
    exact h1 h
  · rw [if_neg h]
    exact h2 h
/-! ### heaps -/
def Same (H H' : Hp) : Prop := ∀ b o, H b = some o → H' b = some o
theorem Same.refl (H : Hp) : Same H H := fun _ _ h => h
theorem Same.trans {H H1 H2 : Hp} (a : Same H H1) (b : Same H1 H2) : Same H H2 := fun c o h => b c o (a c o h)
theorem Same.free {H H' : Hp} (e : Same H H') {l : Addr} (h : H' l = Option.none) : H l = Option.none := by
  cases q : H l with
  | none => rfl
  | some o =>
    rw [e l o q] at h
    cases h
theorem Same.seq {K : PySem.W.Frag} {H H' : Hp} {a : Addr} {xs : List V} (e : Same H H') (h : SqL K H a xs) : SqL K H' a xs := by
  rcases h with (h | ⟨o, h⟩) | h
  · exact .inl (.inl (e _ _ h))
  · exact .inl (.inr ⟨o, e _ _ h⟩)
  · exact .inr h

/-! ### a dict's pairs: keys that differ -/
section
variable {κ : Type} [DecidableEq κ]
theorem valV_in {kvs : List (κ × V)} {k : κ} {v : V} (h : valV kvs k = some v) : k ∈ kvs.map (·.1) := by
  have q : (kvs.any fun kv => decide (kv.1 = k)) = true := by
    rw [valV_any, h]
    all_goals rfl
  obtain ⟨p, hp, e⟩ := List.any_eq_true.mp q
  exact List.mem_map.mpr ⟨p, hp, of_decide_eq_true e⟩
end
end L2

set_option Elab.async false
set_option linter.all false
set_option maxRecDepth 100000
namespace L2
open PySem PySem.Spec PyProof.Rows
/-! ## own additions to the layer -/
theorem bt_len : bootBuiltins "len" = some (.builtin "len") := by decide +kernel
theorem bt_max : bootBuiltins "max" = some (.builtin "max") := by decide +kernel
theorem bt_min : bootBuiltins "min" = some (.builtin "min") := by decide +kernel
theorem bt_isinstance : bootBuiltins "isinstance" = some (.builtin "isinstance") := by decide +kernel
theorem bt_int : bootBuiltins "int" = some (.type "int") := by decide +kernel
theorem bt_bool : bootBuiltins "bool" = some (.type "bool") := by decide +kernel
theorem bt_tuple : bootBuiltins "tuple" = some (.type "tuple") := by decide +kernel
theorem bt_list : bootBuiltins "list" = some (.type "list") := by decide +kernel
theorem bt_all : bootBuiltins "all" = some (.builtin "all") := by decide +kernel

structure Cal (P : Program) (w : World) (K : PySem.W.Frag) (mg : Str → Option Value) (base : Heap) (x : Str) (k : Nat) (ps : List Str) (sp : Sp) : Prop where
  ex : ∃ f fd, FnOk P w K mg base CX0 k f fd ps sp ∧ Binds K fd ps [] ∧ mg x = some (.ref f) ∧ PySem.W.keepIn K (.ref f) = true
structure Dfn (K : PySem.W.Frag) (mg : Str → Option Value) (x : Str) (st : Stmt) (ps : List Str) (f : Addr) (fd : FuncData) : Prop where
  F : Fun K x x st f fd
  b : Binds K fd ps []
  m : mg x = some (.ref f)
theorem Dfn.cal {P : Program} {w : World} {K : PySem.W.Frag} {mg : Str → Option Value} {base : Heap} {x : Str} {st : Stmt} {ps : List Str} {f : Addr} {fd : FuncData} {k : Nat} {sp : Sp}
    (D : Dfn K mg x st ps f fd) (G : FnOk P w K mg base CX0 k f fd ps sp) : Cal P w K mg base x k ps sp := ⟨⟨f, fd, G, D.b, D.m, D.F.kp⟩⟩
section
variable {X : Cx} {k : Nat} {ps : List Str} {sp : Sp} {x : Str} {p pos : Pos} {e : Expr} {es : List Expr} {t : TA}
theorem pe_cal (C : Cal X.prog X.w X.K X.mg X.base x k ps sp) (hr : Room k X.A) (hg : Gl X x) (ha : PA X (e :: es) t) (hdb : (x == ("__debug__" : Str)) = false := by decide)
    (he : starEach (e :: es) X.env = (false, eval e X.env) :: starEach es X.env := by rfl) (hpl : (backTo pos (starEach es X.env)).any (·.1) = false := by rfl) :
    PE X (.Call (.Name x p) (e :: es) [] pos) (tCall sp [] E0 t) := by
  obtain ⟨f, fd, G, b, m, kp⟩ := C.ex
  exact pe_call G hr hg m kp b .nil pass0 ha hdb he hpl
end
section
variable {X : Cx}
def CDivB (_ j : Int) : Prop := 0 < j ∧ j < 1000000000000000000000000000000000000000000000000000000000000
theorem op_fdivB : OpR X (binaryOp .FloorDiv) (rI CDivB fun i j => .int (i / j)) := opI fun i j _ _ _ _ _ hc q => by
  have h1 : (0 : Int) < j := hc.1
  have h2 : j < 1000000000000000000000000000000000000000000000000000000000000 := hc.2
  have h3 : j.natAbs < 2 ^ 200 := by
    have z : (1000000000000000000000000000000000000000000000000000000000000 : Nat) ≤ 2 ^ 200 := by decide
    exact Nat.lt_of_lt_of_le (by omega) z
  have h4 : j.natAbs.log2 < 200 := (Nat.log2_lt (by omega)).mpr h3
  exact floordiv_int (by omega) (by rw [Int.fdiv_eq_ediv_of_nonneg i (by omega)]; exact q) (.inl (PyProof.noPylong_of_log2 (by omega)))
theorem call_isT {n : String} : CallR X (.builtin "isinstance") (fun xs H Q => ∃ x t b, xs = [x, .ty n] ∧ TyOf X.K H x t ∧ PySem.W.kitOne X.K t (.type n) = some b ∧ Q (.bl b) H) := by
  intro pins s σ H xs us Q I r h
  obtain ⟨x, t, b, rfl, ty, e, q⟩ := h
  obtain ⟨u, w', rfl, ru, rw'⟩ := vals2 r
  cases (show w' = Value.type n from rw')
  exact isinst_ok I ru ty e fun tk => ⟨.bl b, H, I.tok tk, rfl, q⟩
/-! == of two tuples, of two lists, of flat values -/
def eqVs : List V → List V → Bool
  | [], [] => true
  | x :: xs, y :: ys => eqV x y && eqVs xs ys
  | _, _ => false
def eqJ (xs ys : List V) (j : Nat) : Bool := match xs[j]?, ys[j]? with
  | some x, some y => eqV x y
  | _, _ => false
theorem eqJ_range : ∀ xs ys : List V, ((List.range (min xs.length ys.length)).all (eqJ xs ys) && (xs.length == ys.length)) = eqVs xs ys
  | [], [] => rfl
  | [], y :: ys => by simp [eqVs]
  | x :: xs, [] => by simp [eqVs]
  | x :: xs, y :: ys => by
    have ih := eqJ_range xs ys
    have hm : min (x :: xs).length (y :: ys).length = min xs.length ys.length + 1 := by simp [List.length_cons]
    have h0 : eqJ (x :: xs) (y :: ys) 0 = eqV x y := rfl
    have h1 : (eqJ (x :: xs) (y :: ys)) ∘ Nat.succ = eqJ xs ys := by
      funext j
      simp [eqJ, Function.comp]
    have hl : ((x :: xs).length == (y :: ys).length) = (xs.length == ys.length) := by
      rw [Bool.eq_iff_iff]
      simp
    rw [hm, List.range_succ_eq_map, List.all_cons, List.all_map, h0, h1, hl, Bool.and_assoc, ih]
    rfl
theorem eqJ_at {A : Around} {s : Shared} {xs ys : List V} {us vs : List Value} (r : Vals xs us) (q : Vals ys vs) (fx : xs.all flatV = true) (fy : ys.all flatV = true) (j : Nat) (h1 : j < us.toArray.size) (h2 : j < vs.toArray.size) :
    SeqAt.EqAt A s us.toArray[j] vs.toArray[j] (eqJ xs ys j) := by
  have l1 : j < xs.length := by rw [r.length]; simpa using h1
  have l2 : j < ys.length := by rw [q.length]; simpa using h2
  obtain ⟨u, eu, ru⟩ := r.get (List.getElem?_eq_getElem l1)
  obtain ⟨v, ev, rv⟩ := q.get (List.getElem?_eq_getElem l2)
  have e1 : us.toArray[j] = u := by
    have := (List.getElem?_eq_some_iff.mp eu).2
    simpa using this
  have e2 : vs.toArray[j] = v := by
    have := (List.getElem?_eq_some_iff.mp ev).2
    simpa using this
  have e3 : eqJ xs ys j = eqV xs[j] ys[j] := by
    unfold eqJ
    rw [List.getElem?_eq_getElem l1, List.getElem?_eq_getElem l2]
  rw [e1, e2, e3]
  exact eqAt_V ru rv (List.all_eq_true.mp fx _ (List.getElem_mem l1)) (List.all_eq_true.mp fy _ (List.getElem_mem l2))
theorem eqVs_len : ∀ {xs ys : List V}, xs.length ≠ ys.length → eqVs xs ys = false
  | [], [], h => absurd rfl h
  | [], _ :: _, _ => rfl
  | _ :: _, [], _ => rfl
  | x :: xs, y :: ys, h => by
    show (eqV x y && eqVs xs ys) = false
    rw [eqVs_len (fun e => h (by simp [e])), Bool.and_false]
def rEqL (K : PySem.W.Frag) : R2 := fun x y H Q => ∃ a b xs ys, x = .ref a ∧ y = .ref b ∧ SqL K H a xs ∧ SqL K H b ys ∧ xs.all flatV = true ∧ ys.all flatV = true ∧ Q (.bl (eqVs xs ys)) H
theorem op_eq_lst (hu : X.A.units < cLine) : OpR X (compareOp .Eq) (rEqL X.K) := by
  intro pins s σ H x y v u Q I rx ry h
  obtain ⟨a, b, xs, ys, rfl, rfl, hx, hy, fx, fy, q⟩ := h
  cases rx
  cases ry
  obtain ⟨its, r, pl, hz⟩ := I.list hx
  obtain ⟨its2, r2, pl2, hz2⟩ := I.list hy
  have e1 : its.toArray.size = xs.length := by simp [r.length]
  have e2 : its2.toArray.size = ys.length := by simp [r2.length]
  by_cases hl : xs.length = ys.length
  · refine SeqAt.eq_listAt (e := eqJ xs ys) pl.isList pl2.isList (by omega) hu (fun j h1 h2 => eqJ_at r r2 fx fy j h1 h2) ⟨.bl _, H, I, rfl, ?_⟩
    have z := eqJ_range xs ys
    rw [← hl, Nat.min_self] at z
    rw [e1]
    have z' : (List.range xs.length).all (eqJ xs ys) = eqVs xs ys := by
      rw [← z]
      simp
    rw [z']
    exact q
  · refine SeqAt.eq_list_lengthsAt pl.isList pl2.isList ?_ hu ⟨.bl _, H, I, rfl, ?_⟩
    · rw [e1, e2]
      simpa using hl
    · rw [eqVs_len hl] at q
      exact q
end
theorem at4 (a b c d n : Int) : ∃ v, atI [V.int a, V.int b, V.int c, V.int d] (n % 4) = some (V.int v) ∧ (v = a ∨ v = b ∨ v = c ∨ v = d) := by
  have h : n % 4 = 0 ∨ n % 4 = 1 ∨ n % 4 = 2 ∨ n % 4 = 3 := by omega
  rcases h with h | h | h | h <;> rw [h]
  · exact ⟨a, rfl, .inl rfl⟩
  · exact ⟨b, rfl, .inr (.inl rfl)⟩
  · exact ⟨c, rfl, .inr (.inr (.inl rfl))⟩
  · exact ⟨d, rfl, .inr (.inr (.inr rfl))⟩
theorem same_new {H : Hp} {p : Addr} (h : H p = none) (o : HO) : Same H (upd H p o) := fun b u q => by rw [upd_ne (ne_of_none q h)]; exact q
section
variable {X : Cx} {es : List Expr} {t : TA} {pos : Pos}
def tTupS (t : TA) : TE := fun σ H Q => t σ H fun xs H1 => xs.length ≤ sizeLine ∧ ∀ p H2, Same H1 H2 → H1 p = none → H2 p = some (.tup xs) → Q (.ref p) H2
def tLstS (t : TA) : TE := fun σ H Q => t σ H fun xs H1 => xs.length ≤ sizeLine ∧ ∀ p H2, Same H1 H2 → H1 p = none → H2 p = some (.lst xs) → Q (.ref p) H2
theorem pe_tupS {x1} (h : PA X es t) : PE X (.Tuple es x1 pos) (tTupS t) := by
  with_unfolding_all
    intro pins s σ H Q I hq
    refine wpAny_Tuple_spliced (thn (h pos pins s σ H _ I hq) fun us s1 ⟨xs, H1, I1, r, z, q⟩ => ⟨by rw [← r.length]; exact z, ?_⟩)
    have hf : H1 s1.heap.objs.size = none := I1.hok.fresh (Nat.le_refl _)
    refine ⟨.ref s1.heap.objs.size, upd H1 s1.heap.objs.size (.tup xs), I1.laid (t' := s1.toks) (fun b u e => Heap.get?_push_of_some _ e) (Nat.le_refl _) ?_, rfl, q _ _ (same_new hf _) hf upd_same⟩
    exact ⟨z, us, r, ⟨_, Heap.get?_push_size _ rfl, rfl, _, rfl⟩⟩
theorem pe_lstS (h : PA X es t) : PE X (.List es pos) (tLstS t) := by
  with_unfolding_all
    intro pins s σ H Q I hq
    refine wpAny_List_spliced (thn (h pos pins s σ H _ I hq) fun us s1 ⟨xs, H1, I1, r, z, q⟩ => ⟨by rw [← r.length]; exact z, ?_⟩)
    have hf : H1 s1.heap.objs.size = none := I1.hok.fresh (Nat.le_refl _)
    refine ⟨.ref s1.heap.objs.size, upd H1 s1.heap.objs.size (.lst xs), I1.laid (t' := s1.toks) (fun b u e => Heap.get?_push_of_some _ e) (Nat.le_refl _) ?_, rfl, q _ _ (same_new hf _) hf upd_same⟩
    exact ⟨z, us, 0, r, Heap.get?_push_size _ rfl⟩
end
section
variable {X : Cx} {st : Stmt} {rest : List Stmt} {t u : TS}
def tMid (t u : TS) : TS := fun D σ H => ∃ M : St → Hp → Prop, t { D with nx := M } σ H ∧ ∀ σ' H', M σ' H' → u D σ' H'
theorem pss_mid (h1 : PS X st t) (h2 : PSs X rest u) : PSs X (st :: rest) (tMid t u) := by
  with_unfolding_all
    intro pins s σ H D I h
    obtain ⟨M, h, hm⟩ := h
    refine wpAny_execs_cons (thn (h1 pins s σ H { D with nx := M } I h) fun f s1 q => ?_)
    cases f with
    | next =>
      obtain ⟨σ', H', I', q⟩ := q
      exact h2 pins s1 σ' H' D I' (hm σ' H' q)
    | ret v => exact q
    | brk => exact q
    | cont => exact q
end
theorem sz (n : Nat) (h : n ≤ 1000) : n ≤ sizeLine := Nat.le_of_lt (small1000 h)
def spLaw (K : PySem.W.Frag) : Sp := fun vs H Q _ => ∃ (a : Addr) (ns : List Int), vs = [.ref a] ∧ SqL K H a (ns.map V.int) ∧ ns.length ≤ 63 ∧ ∀ H', Q (.bl true) H'
section
variable {X : Cx}
end
theorem iteD {c A B : Prop} [Decidable c] (hc : c) (h : A) : if decide c = true then A else B := by
  rw [decide_eq_true hc]
  exact iteT h
theorem iteDn {c A B : Prop} [Decidable c] (hc : ¬ c) (h : B) : if decide c = true then A else B := by
  rw [decide_eq_false hc]
  exact iteF h
end L2

set_option Elab.async false
set_option linter.all false
set_option maxRecDepth 100000
set_option maxHeartbeats 4000000
namespace PySem
def cloStep (env : Env) (x : Str × NameKind) (cs : List (Str × Addr)) : Sem (ForInStep (List (Str × Addr))) :=
  if (x.2 == NameKind.free) = true then do let c ← cellOf env x.1; pure (ForInStep.yield ((x.1, c) :: cs)) else pure (ForInStep.yield cs)
theorem clo_eq (scope : Scope) (env : Env) : closureFor scope env = (forIn scope.names ([] : List (Str × Addr)) (cloStep env) >>= fun cs => pure cs) := by
  unfold closureFor
  rfl
theorem clo_go {env : Env} : ∀ (l : List (Str × NameKind)) (acc : List (Str × Addr)), (∀ y ∈ l, y.2 = .free → ∃ c, env.cells.lookup y.1 = some c) → (∀ x c, acc.lookup x = some c → env.cells.lookup x = some c) →
    ∃ cl, (forIn l acc (cloStep env) : Sem _) = pure cl ∧ (∀ x c, cl.lookup x = some c → env.cells.lookup x = some c) ∧ (∀ x, (x, NameKind.free) ∈ l → ∃ c, cl.lookup x = some c) ∧ (∀ x c, acc.lookup x = some c → ∃ c, cl.lookup x = some c) ∧ (∀ x c, cl.lookup x = some c → (x, NameKind.free) ∈ l ∨ ∃ c', acc.lookup x = some c')
  | [], acc, _, ha => ⟨acc, rfl, ha, fun x h => (by cases h), fun x c h => ⟨c, h⟩, fun x c h => .inr ⟨c, h⟩⟩
  | (n, k) :: l, acc, h, ha => by
    by_cases hk : k = .free
    · subst hk
      obtain ⟨c, hc⟩ := h (n, .free) List.mem_cons_self rfl
      have ha' : ∀ x c', ((n, c) :: acc).lookup x = some c' → env.cells.lookup x = some c' := fun x c' e => by
        rw [List.lookup_cons] at e
        by_cases q : x = n
        · subst q
          simp at e
          rw [hc, e]
        · have : (x == n) = false := by simpa using q
          rw [this] at e
          exact ha x c' e
      obtain ⟨cl, e1, e2, e3, e4, e5⟩ := clo_go l ((n, c) :: acc) (fun y hy => h y (List.mem_cons_of_mem _ hy)) ha'
      refine ⟨cl, ?_, e2, fun x hx => ?_, fun x c' hx => ?_, fun x c' hx => ?_⟩
      · rw [List.forIn_cons]
        have : cloStep env (n, .free) acc = pure (ForInStep.yield ((n, c) :: acc)) := by
          simp only [cloStep, cellOf, hc]
          rfl
        rw [this, pure_bind]
        exact e1
      · rcases List.mem_cons.mp hx with q | q
        · cases q
          exact e4 n c (by simp)
        · exact e3 x q
      · by_cases q : x = n
        · subst q
          exact e4 x c (by simp)
        · have : (x == n) = false := by simpa using q
          exact e4 x c' (by rw [List.lookup_cons, this]; exact hx)
      · rcases e5 x c' hx with z | ⟨d, z⟩
        · exact .inl (List.mem_cons_of_mem _ z)
        · by_cases q : x = n
          · subst q
            exact .inl List.mem_cons_self
          · have : (x == n) = false := by simpa using q
            rw [List.lookup_cons, this] at z
            exact .inr ⟨d, z⟩
    · obtain ⟨cl, e1, e2, e3, e4, e5⟩ := clo_go l acc (fun y hy => h y (List.mem_cons_of_mem _ hy)) ha
      refine ⟨cl, ?_, e2, fun x hx => ?_, e4, fun x c' hx => (e5 x c' hx).imp (List.mem_cons_of_mem _) id⟩
      · rw [List.forIn_cons]
        have : cloStep env (n, k) acc = pure (ForInStep.yield acc) := by
          have z : (k == NameKind.free) = false := by simpa using hk
          simp only [cloStep, z]
          rfl
        rw [this, pure_bind]
        exact e1
      · rcases List.mem_cons.mp hx with q | q
        · cases q
          exact absurd rfl hk
        · exact e3 x q
theorem closure_of {scope : Scope} {env : Env} (h : ∀ y ∈ scope.names, y.2 = .free → ∃ c, env.cells.lookup y.1 = some c) :
    ∃ cl, closureFor scope env = pure cl ∧ (∀ x c, cl.lookup x = some c → env.cells.lookup x = some c) ∧ (∀ x, (x, NameKind.free) ∈ scope.names → ∃ c, cl.lookup x = some c) := by
  obtain ⟨cl, e1, e2, e3, _⟩ := clo_go scope.names [] h (fun x c e => by simp at e)
  exact ⟨cl, by rw [clo_eq, e1]; rfl, e2, e3⟩
theorem closure_of3 {scope : Scope} {env : Env} (h : ∀ y ∈ scope.names, y.2 = .free → ∃ c, env.cells.lookup y.1 = some c) :
    ∃ cl, closureFor scope env = pure cl ∧ (∀ x c, cl.lookup x = some c → env.cells.lookup x = some c) ∧ (∀ x, (x, NameKind.free) ∈ scope.names → ∃ c, cl.lookup x = some c) ∧ (∀ x c, cl.lookup x = some c → (x, NameKind.free) ∈ scope.names) := by
  obtain ⟨cl, e1, e2, e3, _, e5⟩ := clo_go scope.names [] h (fun x c e => by simp at e)
  exact ⟨cl, by rw [clo_eq, e1]; rfl, e2, e3, fun x c e => (e5 x c e).elim id fun ⟨_, z⟩ => by simp at z⟩
end PySem
namespace L2
open PySem PySem.Spec PyProof.Rows
/-! ### a list comprehension: one for, at most one if; its block is a context of its own -/
abbrev cxComp (X : Cx) (N : List Str) (scope : Scope) (cl : List (Str × Addr)) (C : Addr) (s₀ : Shared) (H₀ : Hp) (ex : List Addr) : Cx where
  prog := X.prog
  w := X.w
  K := X.K
  mg := X.mg
  base := X.base
  A := X.A
  N := N
  s₀ := s₀
  H₀ := H₀
  env := compEnvC scope cl C X.env
  outer := X.stack
  stack := X.stack
  ex := ex
  fn := fun _ => false
  calm := X.calm
  pn := []
  xe := fun _ _ => False
def CTests (Y : Cx) (ifs : List Expr) (t : TT) : Prop :=
  ∀ (pins : List (Addr × Obj)) (s : Shared) (σ : St) (H : Hp) (Q : Bool → Hp → Prop), Inv Y pins σ H s → t σ H Q →
    wpAny (model Y.prog Y.w) Y.A (forIn ifs true fun c r => if r = true then do let ok ← isTrue c Y.env (eval c Y.env); pure (ForInStep.yield ok) else pure (ForInStep.yield r)) (TP Y pins σ Q) Y.xe s
def tYes : TT := fun _ H Q => Q true H
theorem ct_nil {Y : Cx} : CTests Y [] tYes := fun _ _ _ H _ I h => wpAny_tests_nil ⟨H, I, h⟩
theorem ct_one {Y : Cx} {c : Expr} {t : TT} (h : PT Y c t) : CTests Y [c] t := by
  with_unfolding_all
    exact fun pins s σ H Q I q => wpAny_tests_one (h pins s σ H Q I q)
def caps (σ : St) (js : List Nat) : St := js.map fun j => (σ[j]?).join
def CompGo (J : It) (js : List Nat) (tc : TT) (te : TE) (σ : St) (H1 : Hp) (Q : VK) : Prop :=
  ∀ D H2, Same H1 H2 → H1 D = none → H2 D = some (.lst []) → ∃ W : Nat → Nat → List V → Hp → Prop, (∃ m, W 0 m [] H2) ∧ ∀ i m acc H3, W i m acc H3 →
    H3 D = some (.lst acc) ∧ acc.length < sizeLine ∧ ((J.stop i H3 ∧ Q (.ref D) H3) ∨ (J.go i H3 ∧ ∀ x H4, J.yld i H3 x H4 →
      tc (some x :: caps σ js) H4 fun b H5 => if b = true then te (some x :: caps σ js) H5 fun v H6 => H6 D = some (.lst acc) ∧
          ∀ H7, (∀ b o, b ≠ D → H6 b = some o → H7 b = some o) → H7 D = some (.lst (acc ++ [v])) → ∃ m', m' < m ∧ W (i + 1) m' (acc ++ [v]) H7
        else ∃ m', m' < m ∧ W (i + 1) m' acc H5))
def tComp (wi : TI) (js : List Nat) (tc : TT) (te : TE) : TE := fun σ H Q => wi σ H fun J H1 => CompGo J js tc te σ H1 Q
structure CompScope (X : Cx) (scope : Scope) (x : Str) (N : List Str) (js : List Nat) : Prop where
  kind : scope.kind = .function
  nocell : ∀ y ∈ scope.names, y.2 ≠ .cell
  loc : ∀ y ∈ scope.names, y.2 = .local → scope.names.lookup y.1 = some .local
  own : scope.names.lookup x = some .local
  free : ∀ y ∈ scope.names, y.2 = .free → X.env.kindOf y.1 = some .cell
  nd : N.Nodup
  head : N[0]? = some x
  len : N.length = js.length + 1
  apart : ∀ y, scope.names.lookup y = some .local → (y, NameKind.free) ∉ scope.names
  cap : ∀ (k j : Nat) (y : Str), N[k + 1]? = some y → js[k]? = some j → X.N[j]? = some y ∧ Vis X.env.scope y ∧ X.env.kindOf y = some .cell ∧ (y, NameKind.free) ∈ scope.names
theorem CompScope.of {X : Cx} {scope : Scope} {x : Str} {N : List Str} {js : List Nat} (c1 : scope.kind = .function) (c2 : (scope.names.all fun y => y.2 != .cell) = true)
    (c3 : (scope.names.all fun y => y.2 != .local || scope.names.lookup y.1 == some .local) = true) (c4 : scope.names.lookup x = some .local) (c5 : (scope.names.all fun y => y.2 != .free || X.env.kindOf y.1 == some .cell) = true)
    (nd : N.Nodup) (hd : N[0]? = some x) (len : N.length = js.length + 1) (c6 : (scope.names.all fun y => y.2 != .free || scope.names.lookup y.1 != some .local) = true)
    (c7 : (((N.drop 1).zip js).all fun p => X.N[p.2]? == some p.1 && X.env.scope.names.lookup p.1 == some .cell && scope.names.contains (p.1, NameKind.free)) = true) : CompScope X scope x N js where
  kind := c1
  nocell := fun y hy e => by
    have := List.all_eq_true.mp c2 y hy
    rw [e] at this
    exact absurd this (by decide)
  loc := fun y hy e => by
    have := List.all_eq_true.mp c3 y hy
    rw [e] at this
    simpa using this
  own := c4
  free := fun y hy e => by
    have := List.all_eq_true.mp c5 y hy
    rw [e] at this
    simpa using this
  nd := nd
  head := hd
  len := len
  apart := fun y hl hm => by
    have := List.all_eq_true.mp c6 _ hm
    rw [hl] at this
    simp at this
  cap := fun k j y h1 h2 => by
    have hz : ((N.drop 1).zip js)[k]? = some (y, j) := by
      rw [List.getElem?_zip_eq_some]
      exact ⟨by rw [List.getElem?_drop, Nat.add_comm]; exact h1, h2⟩
    have := List.all_eq_true.mp c7 _ (List.mem_of_getElem? hz)
    simp only [Bool.and_eq_true, beq_iff_eq] at this
    obtain ⟨⟨a, b⟩, c⟩ := this
    exact ⟨a, .inr (.inl b), b, by simpa using c⟩
theorem relabel_cell {scope : Scope} {env : Env} {y : Str} {k : NameKind} (h : (relabel scope env).names.lookup y = some k) (hk : k = .cell ∨ k = .free) (nocell : ∀ z ∈ scope.names, z.2 ≠ .cell) : (y, NameKind.free) ∈ scope.names := by
  have hm := PySem.mem_of_lookup h
  obtain ⟨⟨n, k'⟩, hn, e⟩ := List.mem_map.mp hm
  dsimp only at e
  by_cases c : (k' == NameKind.free && env.scope.kind == .function && env.kindOf n == some .cell) = true
  · rw [if_pos c] at e
    have ek : k' = .free := by
      simp only [Bool.and_eq_true, beq_iff_eq] at c
      exact c.1.1
    cases e
    rw [← ek]
    exact hn
  · rw [if_neg c] at e
    cases e
    rcases hk with rfl | rfl
    · exact absurd rfl (nocell _ hn)
    · exact hn
theorem pe_comp {X : Cx} {iter elt : Expr} {x : Str} {px : Pos} {ifs : List Expr} {scope : Scope} {pos : Pos} {wi : TI} {N : List Str} {js : List Nat} {tc : TT} {te : TE}
    (hc : X.calm = true) (S : CompScope X scope x N js) (hi : PI X (.Name x px) iter wi)
    (ht : ∀ cl C s₀ H₀ ex, CTests (cxComp X N scope cl C s₀ H₀ ex) ifs tc) (he : ∀ cl C s₀ H₀ ex, PE (cxComp X N scope cl C s₀ H₀ ex) elt te)
    (hs : ∀ x, foldedSetIterable iter X.env x = pure x := by intro _; rfl) :
    PE X (.ListComp elt [⟨.Name x px, iter, ifs, 0⟩] scope pos) (tComp wi js tc te) := by
  with_unfolding_all
    intro pins s σ H Q I h
    have hcells : ∀ y ∈ scope.names, y.2 = .free → ∃ c, X.env.cells.lookup y.1 = some c := fun y hy hf => I.ok.has y.1 (.inl (S.free y hy hf))
    obtain ⟨cl, ecl, cl1, cl2⟩ := closure_of hcells
    rw [eval_ListComp]
    refine wpAny_comprehension_free (use := none) rfl hs ecl S.kind S.loc (thn (hi pins s σ H _ I h) fun v s1 h1 => thn h1 fun itv s2 h2 => ?_)
    obtain ⟨it, fp, tn, J, H2, e, I2, T, st2, f2, q2⟩ := h2
    subst e
    refine wpAny_newObj_type (wpAny_newFunctionEnv S.nocell (by intro y hy; simp at hy) (fun h₁ hns₁ hsb₁ => ?_) S.kind)
    dsimp only at hns₁ hsb₁ ⊢
    generalize hP2 : s2.heap.push { cls := .type "list", dict := none, data := .seq ([] : List Value).toArray } = P2 at hns₁ hsb₁ ⊢
    have hC : P2.objs.size = s2.heap.objs.size + 1 := by rw [← hP2, Heap.size_push]
    have below : ∀ b, b < s2.heap.objs.size → b ≠ P2.objs.size ∧ b ≠ s2.heap.objs.size := fun b hb => ⟨by rw [hC]; exact Nat.ne_of_lt (Nat.lt_succ_of_lt hb), Nat.ne_of_lt hb⟩
    have hDC : s2.heap.objs.size ≠ P2.objs.size := by rw [hC]; exact Nat.ne_of_lt (Nat.lt_succ_self _)
    have old : ∀ b o, s2.heap.get? b = some o → h₁.get? b = some o := fun b o e => hsb₁.extBut b o (below b (Heap.lt_size e)).1 (Heap.get?_push_of_some _ (hP2 ▸ Heap.get?_push_of_some _ e))
    have hD : h₁.get? s2.heap.objs.size = some { cls := .type "list", dict := none, data := .seq ([] : List Value).toArray } := hsb₁.extBut _ _ hDC (Heap.get?_push_of_some _ (hP2 ▸ Heap.get?_push_size _ rfl))
    have hDn : H2 s2.heap.objs.size = none := I2.hok.fresh (Nat.le_refl _)
    have hCn : H2 P2.objs.size = none := I2.hok.fresh (by rw [hC]; exact Nat.le_succ _)
    obtain ⟨W, ⟨m0, w0⟩, turn⟩ := q2 s2.heap.objs.size _ (same_new hDn (.lst [])) hDn upd_same
    -- the block's context
    have fpl : ∀ b ∈ fp, b < s2.heap.objs.size := fun b hb => by
      obtain ⟨o, e, _⟩ := T.obj 0 _ st2 b hb
      exact Heap.lt_size e
    have yok : (cxComp X N scope cl P2.objs.size s2 H2 fp).Ok :=
      { mod := I2.ok.mod
        kind := S.kind
        glob := I2.ok.glob
        blt := I2.ok.blt
        above := by show s2.heap.objs.size ≤ P2.objs.size; rw [hC]; exact Nat.le_succ _
        inj := fun y z c h1 h2 => I2.ok.inj y z c (cl1 y c h1) (cl1 z c h2)
        has := fun y hy => by
          have hy' : (y, NameKind.free) ∈ scope.names := by
            rcases hy with hy | hy
            · exact relabel_cell (env := X.env) hy (.inl rfl) S.nocell
            · exact relabel_cell (env := X.env) hy (.inr rfl) S.nocell
          exact cl2 y hy'
        cab := fun y c hf _ => by cases hf
        hd := fun hc' => I2.ok.hd hc'
        frames := I2.ok.frames
        stk := .inl rfl
        exf := fun b hb => ⟨(below b (fpl b hb)).1, fun y c e => (f2 b hb).2.2.2.2.1 y c (cl1 y c e)⟩
        bs := I2.bs
        bsz := Nat.le_trans I2.ok.bsz I2.sz
        noex := fun b o e hb => by
          rcases (f2 b hb).2.2.2.1 with z | z
          · exact I2.ok.noex b o e z
          · exact absurd (Nat.lt_of_lt_of_le (Nat.lt_of_lt_of_le (Heap.lt_size e) I2.ok.bsz) z) (Nat.lt_irrefl _)
        exfs := fun b hb hf => by
          rcases List.mem_cons.mp (I2.stkSub b hf) with z | z
          · exact (f2 b hb).2.1 z
          · exact (f2 b hb).2.2.1 z
        funs := I2.stack
        frf := I2.stkFree }
    have hokD : HOk X.prog X.w (upd H2 s2.heap.objs.size (.lst [])) h₁ := I2.hok.laid old (Nat.le_refl _) ⟨Nat.zero_le _, [], 0, .nil, hD⟩
    have I3 : Inv (cxComp X N scope cl P2.objs.size s2 H2 fp) [] (none :: caps σ js) (upd H2 s2.heap.objs.size (.lst [])) { s2 with heap := h₁, toks := s2.toks + ([] : List (Str × Value)).length } :=
      { ok := yok
        os := rfl
        bare := I2.bare
        base := Un.laid old (Nat.le_refl _) hDn
        loc := by
          refine ⟨_, hns₁, fun i y v e1 e2 e3 => ?_⟩
          cases i with
          | zero => simp at e2
          | succ k =>
            have e2' : (caps σ js)[k]? = some (some v) := by simpa using e2
            unfold caps at e2'
            rw [List.getElem?_map] at e2'
            cases ej : js[k]? with
            | none => rw [ej] at e2'; cases e2'
            | some j =>
              rw [ej] at e2'
              have e4 : (σ[j]?).join = some v := Option.some.inj e2'
              have e5 : σ[j]? = some (some v) := by
                cases eσ : σ[j]? with
                | none => rw [eσ] at e4; cases e4
                | some o => rw [eσ] at e4; exact congrArg some e4
              obtain ⟨n1, n2, n3, n4⟩ := S.cap k j y e1 ej
              obtain ⟨mX, _, lX⟩ := I2.loc
              obtain ⟨u, ru, lk⟩ := lX j y v n1 e5 n2
              refine ⟨u, ru, ?_⟩
              rcases lk with ⟨lk, _⟩ | ⟨_, c, ec, cell⟩
              · rw [n3] at lk; cases lk
              · obtain ⟨c', ec'⟩ := cl2 y n4
                have : c' = c := Option.some.inj ((cl1 y c' ec').symm.trans ec)
                subst this
                obtain ⟨o, ho, hd⟩ := cell
                refine .inr ⟨?_, c', ec', ⟨o, old _ _ ho, hd⟩⟩
                -- the name is a cell or free in the block
                have e3' : (relabel scope X.env).names.lookup y = some .local ∨ (relabel scope X.env).names.lookup y = some .cell ∨ (relabel scope X.env).names.lookup y = some .free := e3
                rcases e3' with z | z | z
                · exfalso
                  have hm := PySem.mem_of_lookup z
                  obtain ⟨⟨n, k'⟩, hn, e⟩ := List.mem_map.mp hm
                  dsimp only at e
                  by_cases cc : (k' == NameKind.free && X.env.scope.kind == .function && X.env.kindOf n == some .cell) = true
                  · rw [if_pos cc] at e
                    cases e
                  · rw [if_neg cc] at e
                    cases e
                    have l1 := S.loc _ hn rfl
                    have l2 := lookup_relabel_local (env := X.env) l1
                    have f1 := S.free _ n4 rfl
                    exact S.apart y l1 n4
                · exact .inl z
                · exact .inr z
        cell := fun y c e => by
          obtain ⟨v, o, ho, hd⟩ := I2.cell y c (cl1 y c e)
          exact ⟨v, o, old _ _ ho, hd⟩
        free := by show upd H2 s2.heap.objs.size (.lst []) P2.objs.size = none; rw [upd_ne (Ne.symm hDC)]; exact hCn
        freeC := fun y c e => by
          obtain ⟨v, o, ho, hd⟩ := I2.cell y c (cl1 y c e)
          rw [upd_ne (below c (Heap.lt_size ho)).2]
          exact I2.freeC y c (cl1 y c e)
        pin := fun p hp => by simp at hp
        hok := hokD
        len := by show (none :: caps σ js).length = N.length; rw [S.len]; simp [caps] }
    have st3 : tn 0 h₁ := T.keep 0 _ _ st2 fun b _ o e => old b o e
    have fr3 : ∀ b ∈ fp, (upd H2 s2.heap.objs.size (.lst [])) b = none := fun b hb => by
      rw [upd_ne (below b (fpl b hb)).2]
      exact (f2 b hb).1
    -- what stays true of the iterator's objects
    have stat : ∀ {H' : Hp}, (∀ b ∈ fp, H' b = none) → ∀ b ∈ fp, FpOk (cxComp X N scope cl P2.objs.size s2 H2 fp) [] H' b := fun hn b hb =>
      ⟨hn b hb, (below b (fpl b hb)).1, yok.exfs b hb, .inl hb, fun y c e => (f2 b hb).2.2.2.2.1 y c (cl1 y c e), fun p hp => by simp at hp⟩
    have pgn : PG (cxComp X N scope cl P2.objs.size s2 H2 fp) (.Name x px) (gName 0) := pg_name S.nd S.head (.inl (lookup_relabel_local S.own)) (.inr (lookup_relabel_local S.own))
    have loop : ∀ s₃ : Shared, s₃ = { s2 with heap := h₁, toks := s2.toks + ([] : List (Str × Value)).length } →
        codeAny (model X.prog X.w) X.A (.compLoop (.ListComp elt [⟨.Name x px, iter, ifs, 0⟩] scope pos) 0 (.ref it) (.ref s2.heap.objs.size) (compEnvC scope cl P2.objs.size X.env))
          (compPost (model X.prog X.w) X.A X.xe none (EP X pins σ Q) (.ref s2.heap.objs.size) P2.objs.size) s₃ := by
      rintro s₃ rfl
      refine codeAny_loop rfl (fun n s' => ∃ i o acc H', Inv (cxComp X N scope cl P2.objs.size s2 H2 fp) [] (o :: caps σ js) H' s' ∧ tn i s'.heap ∧ (∀ b ∈ fp, H' b = none) ∧ W i n acc H') ?_ m0 ⟨0, none, [], _, I3, st3, fr3, w0⟩
      rintro n s4 ⟨i, o, acc, H4, I4, st4, fr4, w4⟩
      show wpAny _ X.A ((compTurn (.ListComp elt [⟨.Name x px, iter, ifs, 0⟩] scope pos) 0 (.ref it) (.ref s2.heap.objs.size) (compEnvC scope cl P2.objs.size X.env)).onRaise (fun x => do noteFrame x (compEnvC scope cl P2.objs.size X.env); theTreesLotGoes x)) _ _ s4
      refine wpAny_noted ?_
      rw [compTurn_list]
      refine wpAny_bind (wpAny_standAt (wpAny_bind ?_))
      obtain ⟨hD4, hz4, alt⟩ := turn i n acc H4 w4
      rcases alt with ⟨stop, qn⟩ | ⟨go, step⟩
      · refine thn (T.done (cxComp X N scope cl P2.objs.size s2 H2 fp) rfl rfl rfl hc i [] s4 _ H4 _ I4 (stat fr4) st4 stop) fun r s5 ⟨hr, I5⟩ => ?_
        subst hr
        refine wpAny_pure ?_
        obtain ⟨m5, n5, _⟩ := I5.loc
        refine ⟨m5, n5, fun h' sb => ⟨.ref s2.heap.objs.size, H4, ?_, rfl, qn⟩⟩
        have k5 : ∀ b o, b ≠ P2.objs.size → s5.heap.get? b = some o → h'.get? b = some o := fun b o hb e => sb.extBut b o hb e
        have u5 := I5.base
        have nC : ∀ b o, s2.heap.get? b = some o → b ≠ P2.objs.size := fun b o e => (below b (Heap.lt_size e)).1
        refine I2.call' (s' := { s5 with heap := h' }) (ch := fp) I5.os ?_ ?_ I5.bare fun b hb => ⟨(f2 b hb).2.2.2.1, (f2 b hb).2.1, (f2 b hb).2.2.2.2.1, (f2 b hb).2.2.2.2.2⟩
        · refine ⟨fun b o e n1 n2 n3 => k5 b o (nC b o e) (u5.keep b o e n1 n2 n3), fun b o e n1 n2 n3 => ?_, u5.free, fun b o e n3 => ?_, u5.tups, u5.frzs, u5.tbls⟩
          · obtain ⟨sl, z⟩ := u5.slot b o e n1 n2 n3
            exact ⟨sl, k5 b _ (nC b o e) z⟩
          · obtain ⟨o', z⟩ := u5.there b o e n3
            exact ⟨o', k5 b o' (nC b o e) z⟩
        · intro b u e
          refine (I5.hok b u e).stay (fun c v hc q => k5 c v ?_ q) (fun _ q => q) (fun _ _ q => q) fun _ _ _ q => q
          rintro rfl
          rcases hc with z | z
          · rw [← z, show H4 P2.objs.size = none from I5.free] at e; cases e
          · have := I5.free
            rw [show H4 P2.objs.size = none from I5.free] at z
            cases z
      · refine thn (T.item (cxComp X N scope cl P2.objs.size s2 H2 fp) rfl rfl rfl hc i [] s4 _ H4 _ I4 (stat fr4) st4 go) fun r s5 ⟨u, hr, h5⟩ => ?_
        subst hr
        refine wpAny_bind (thn h5 fun _ s6 ⟨y, H6, I6, r6, y6, st6, fr6⟩ => ?_)
        have I6' := I6.pinned (stat fr6) (T.obj _ _ st6)
        refine wpAny_bind (wpAny_mono (pgn _ s6 (o :: caps σ js) H6 y u (fun σ' H' => σ' = some y :: caps σ js ∧ H' = H6) I6' r6 ⟨rfl, rfl⟩) (fun _ s7 ⟨σ7, H7, I7, e7, e8⟩ => ?_) fun _ _ z => z.elim)
        subst e7 e8
        have back : ∀ {s9 : Shared} {H9 : Hp} {acc9 : List V} {m9 : Nat}, Inv (cxComp X N scope cl P2.objs.size s2 H2 fp) ([] ++ pinsAt fp s6.heap) (some y :: caps σ js) H9 s9 → m9 < n → W (i + 1) m9 acc9 H9 →
            ∃ m, m < n ∧ ∃ i o acc H', Inv (cxComp X N scope cl P2.objs.size s2 H2 fp) [] (o :: caps σ js) H' s9 ∧ tn i s9.heap ∧ (∀ b ∈ fp, H' b = none) ∧ W i m acc H' := fun {s9 H9 acc9 m9} I9 hm w9 => by
          refine ⟨m9, hm, i + 1, some y, acc9, H9, I9.unpinned, T.keep _ _ _ st6 fun b hb o e => (I9.pin (b, o) (List.mem_append_right _ (List.mem_append_right _ (mem_pinsAt hb e)))).1, fun b hb => ?_, w9⟩
          obtain ⟨o, e, d⟩ := T.obj _ _ st6 b hb
          exact (I9.pin (b, o) (List.mem_append_right _ (List.mem_append_right _ (mem_pinsAt hb e)))).2.1
        refine wpAny_bind (wpAny_mono (ht cl _ s2 H2 fp _ s7 _ _ _ I7 (step y _ y6)) (fun ok s8 ⟨H8, I8, q8⟩ => ?_) fun _ _ z => z.elim)
        cases ok with
        | false =>
          obtain ⟨m9, hm, w9⟩ := q8
          exact wpAny_pure ⟨rfl, back I8 hm w9⟩
        | true =>
          refine wpAny_bind (wpAny_bind (wpAny_mono (he cl _ s2 H2 fp _ s8 _ _ _ I8 q8) (fun xv s9 ⟨v9, H9, I9, r9, hD9, q9⟩ => ?_) fun _ _ z => z.elim))
          refine wpAny_bind (wpAny_mono (mt_append (X := cxComp X N scope cl P2.objs.size s2 H2 fp) _ s9 _ H9 (.ref s2.heap.objs.size) [v9] (.ref s2.heap.objs.size) [xv] (fun _ H' => H' = upd H9 s2.heap.objs.size (.lst (acc ++ [v9]))) I9 rfl (.cons r9 .nil) ⟨_, acc, v9, rfl, rfl, hD9, hz4, rfl⟩) (fun _ s10 ⟨v10, H10, I10, _, e10⟩ => ?_) fun _ _ z => z.elim)
          subst e10
          obtain ⟨m9, hm, w9⟩ := q9 _ (fun b o hb e => by rw [upd_ne hb]; exact e) upd_same
          exact wpAny_pure (wpAny_pure ⟨rfl, back I10 hm w9⟩)
    exact codeAny_compStart_list (loop _ rfl) (T.self _ 0 _ _ _ st3 (loop _ rfl))
end L2

namespace M1
def gd (x y : Int) : Int := ((Int.gcd x y : Nat) : Int)
theorem gd_zero {x : Int} (h : 0 ≤ x) : gd x 0 = x := by
  unfold gd
  rw [Int.gcd_zero_right]
  omega
theorem gd_step {x y : Int} : gd y (x % y) = gd x y := by
  unfold gd
  have e : x % y = x + y * (-(x / y)) := by
    rw [Int.mul_neg, Int.emod_def]
    omega
  rw [Int.gcd_comm y, e, Int.gcd_add_mul_left_left]
theorem gd_pos {x y : Int} (h : 0 < y) : 0 < gd x y := by
  have : 0 < Int.gcd x y := Int.gcd_pos_of_ne_zero_right x (by omega)
  unfold gd
  omega
theorem gd_dvd_right (x y : Int) : gd x y ∣ y := Int.gcd_dvd_right x y
theorem gd_le {x y : Int} (h : 0 < y) : gd x y ≤ y := Int.le_of_dvd h (gd_dvd_right x y)
end M1

set_option Elab.async false
set_option linter.all false
namespace M2
open PySem PySem.NumText
/-! ### what is read -/
end M2

set_option Elab.async false
set_option linter.all false
set_option maxRecDepth 100000
set_option maxHeartbeats 4000000
namespace L2
open PySem PySem.Spec PyProof.Rows
/-! ## texts -/
section
variable {X : Cx} {tg : Expr}
/-! slices, comparisons, methods -/
theorem all_range (bs : List Bool) : (List.range bs.length).all (fun i => (bs[i]?).getD true) = bs.all id := by
  induction bs with
  | nil => rfl
  | cons b r ih =>
    rw [List.length_cons, List.range_succ_eq_map, List.all_cons, List.all_map, List.all_cons, ← ih]
    rfl
theorem call_allB (hc : X.calm = true) : CallR X (.builtin "all") (fun xs H Q => ∃ (p : Addr) (bs : List Bool), xs = [.ref p] ∧ SqL X.K H p (bs.map V.bl) ∧ Q (.bl (bs.all id)) H) := by
  intro pins s σ H xs us Q I r h
  obtain ⟨p, bs, rfl, hq, q⟩ := h
  obtain ⟨u, rfl, ru⟩ := vals1 r
  cases ru
  obtain ⟨its, rv, pl, hz⟩ := I.list hq
  have lt : p < s.heap.objs.size := by
    obtain ⟨o, ho, _⟩ := pl.isList
    exact Heap.lt_size ho
  have hl : its.toArray.size = bs.length := by
    have := rv.length
    simp at this ⊢
    omega
  refine call_all_walk (wpAny_pyIter_list pl.isList ?_)
  refine ⟨s.heap.objs.size, _, _, _, _, _, fun i => (bs[i]?).getD true, rfl, Walks.list (prog := X.prog) (w := X.w) (A := X.A.in1) (show X.A.in1.handled = none from I.ok.hd hc) _ p (Nat.ne_of_lt lt) its.toArray, ⟨⟨_, Heap.get?_push_size _ rfl, rfl, rfl⟩, pl.isList.at fun o e => Heap.get?_push_of_some _ e⟩, fun i v s' Q' E' hP hQ' => ?_, fun h' tk kk => ?_⟩
  · have hP' : its[i]? = some v := by simpa using hP
    cases e : bs[i]? with
    | none =>
      have h1 : its.length ≤ i := by
        have h2 := List.getElem?_eq_none_iff.mp e
        simp at hl
        omega
      rw [List.getElem?_eq_none h1] at hP'
      cases hP'
    | some b =>
      dsimp only at hQ'
      rw [e] at hQ'
      obtain ⟨u, hu, ru⟩ := rv.get (i := i) (x := .bl b) (by rw [List.getElem?_map, e]; rfl)
      rw [hP'] at hu
      cases hu
      cases (show v = Value.bool b from ru)
      exact wpAny_truthy_bool hQ'
  · rw [hl, all_range]
    refine ⟨.bl _, H, I.kept (t' := tk) (h' := h') fun b o e => kk b o ?_ (Heap.get?_push_of_some _ e), rfl, q⟩
    intro z
    have z : b = s.heap.objs.size := by simpa using z
    exact Nat.ne_of_lt (Heap.lt_size e) z
theorem op_ne_lst (hu : X.A.units < cLine) : OpR X (compareOp .NotEq) (fun x y H Q => ∃ a b xs ys, x = .ref a ∧ y = .ref b ∧ SqL X.K H a xs ∧ SqL X.K H b ys ∧ xs.all flatV = true ∧ ys.all flatV = true ∧ Q (.bl (!eqVs xs ys)) H) := by
  intro pins s σ H x y v u Q I rx ry h
  obtain ⟨a, b, xs, ys, rfl, rfl, hx, hy, fx, fy, q⟩ := h
  cases rx
  cases ry
  obtain ⟨its, r, pl, hz⟩ := I.list hx
  obtain ⟨its2, r2, pl2, hz2⟩ := I.list hy
  have e1 : its.toArray.size = xs.length := by simp [r.length]
  have e2 : its2.toArray.size = ys.length := by simp [r2.length]
  by_cases hl : xs.length = ys.length
  · refine SeqAt.RcNeAt.lists (e := eqJ xs ys) pl.isList pl2.isList (by omega) hu (fun j h1 h2 => eqJ_at r r2 fx fy j h1 h2) X.prog X.w X.xe _ ⟨.bl _, H, I, rfl, ?_⟩
    have z := eqJ_range xs ys
    rw [← hl, Nat.min_self] at z
    rw [e1]
    have z' : (List.range xs.length).all (eqJ xs ys) = eqVs xs ys := by
      rw [← z]
      simp
    rw [z']
    exact q
  · refine SeqAt.RcNeAt.lists_lengths pl.isList pl2.isList ?_ hu X.prog X.w X.xe _ ⟨.bl _, H, I, rfl, ?_⟩
    · rw [e1, e2]
      simpa using hl
    · rw [eqVs_len hl] at q
      exact q
end
end L2

set_option Elab.async false
set_option linter.all false
set_option maxRecDepth 100000
set_option maxHeartbeats 4000000
namespace L2
open PySem PySem.Spec PyProof.Rows
/-! ## f-strings -/
abbrev TJ := Str → St → Hp → VK → Prop
section
variable {X : Cx} {e : Expr} {es : List Expr} {te : TE} {t : TJ} {pos : Pos}
/-! ## a loop, a word between: kept shut for the reading's own tactic -/
structure Box (P : Prop) : Prop where
  un : P
end
end L2

set_option Elab.async false
set_option linter.all false
set_option maxRecDepth 100000
set_option maxHeartbeats 4000000
namespace PySem
open Sem (wp)
section
variable {prog : Program} {w : World} {A : Around} {E : Value → Shared → Prop} {h : Heap} {g : Array GenState} {d : Drawn} {t : Nat} {os : OsState}
variable {nm q : Str} {C N : Addr} {bs bm bmB : List Value} {hdct : Bool} {sn : List Str} {sub : List Value} {ab : Bool} {col : Option Bool} {dd : Option Addr} {k0 k1 k2 k3 k5 : Option Value} {B newId initId : String}
end
end PySem
namespace PySem.W
open PySem PySem.Spec PySem.Calls PyProof.Rows Builtin Builtin.ObjectAttr
/-! an own exception class in the written part -/
def bmVE : List Value := [.type "ValueError", .type "Exception", .type "BaseException", .type "object"]
def refsVE : List Value → Bool
  | .ref _ :: r => refsVE r
  | l => l == bmVE
def xcIn (K : Frag) (C : Addr) (ini : Option Addr) : Bool := match K.lookup C with
  | some ⟨.type "type", _, .cls cd, sl⟩ => (match cd.mro, sl.toList with
    | .ref C' :: bm, [_, _, _, _, some (.builtin n), _] => C' == C && n == "ValueError.__new__" && !cd.hasDel && cd.hasDict && tailIn K bmVE bm && refsVE bm && nsOkIn K cd.ns && nsIn K cd.ns "__init__" == some (ini.map .ref)
    | _, _ => false)
  | _ => false
structure XcAt (h : Heap) (C : Addr) (ini : Option Addr) : Prop where
  ex : ∃ nm q N bs bm sn sub ab col dd k0 k1 k2 k3 k5 mN, h.get? C = some (excClassObj nm q C N bs bm true sn sub ab col dd k0 k1 k2 k3 k5 "ValueError.__new__") ∧ h.Ns N mN ∧ mN "__init__" = ini.map .ref ∧ OwnTail h bmVE bm ∧ refsVE bm = true
end PySem.W
namespace PySem.W
open PySem PySem.Spec PySem.Calls PyProof.Rows Builtin Builtin.ObjectAttr
section
variable {prog : Program} {w : World} {A : Around} {K : Frag} {C x : Addr} {s : Shared} {R : Result → Shared → Prop}
end
end PySem.W
namespace PySem.W
open PySem PySem.Spec PySem.Calls PyProof.Rows Builtin Builtin.ObjectAttr
section
variable {prog : Program} {w : World} {A : Around} {K : Frag} {C x : Addr} {s : Shared} {ox : Obj} {od : Option Obj} {name : Str} {ini : Option Addr}
end
end PySem.W

set_option Elab.async false
set_option linter.all false
set_option maxRecDepth 100000
set_option maxHeartbeats 4000000
namespace L2
open PySem PySem.Spec PyProof.Rows
/-! ## exceptions: the object, its dict -/
abbrev xobj (C : Addr) (dx : Option Addr) (vs : Array Value) : Obj := { cls := .ref C, dict := dx, data := .fields vs }
def XcO (a C : Addr) (dx : Option Addr) (vs : Array Value) : HO := .ext fun h => h.get? a = some (xobj C dx vs)
structure XCls (K : PySem.W.Frag) (C : Addr) : Prop where
  xc : ∃ ini, PySem.W.xcIn K C ini = true
  sa : PySem.W.findIn K (.ref C) "__setattr__" = some (some (.builtin "object.__setattr__"))
  ga : PySem.W.findIn K (.ref C) "__getattribute__" = some (some (.builtin "BaseException.__getattribute__"))
  gn : PySem.W.findIn K (.ref C) "__getattr__" = some none
  hd : PySem.W.hasDictIn K C = true
  cl : PySem.W.findIn K (.ref C) "__class__" = some (some (.builtin "object.__class__"))
  cg : PySem.W.specialIn K (.builtin "object.__class__") "__get__" = some (some (.builtin "getset_descriptor.__get__"))
  ct : PySem.W.takesIn K (.builtin "object.__class__") = some true
  mo : PySem.W.mroIn K C (.type "object") = some true
section
variable {X : Cx} {pins : List (Addr × Obj)} {σ : St} {H : Hp} {s : Shared}
structure IsX (K : PySem.W.Frag) (H : Hp) (a C : Addr) : Prop where
  cls : XCls K C
  at_ : ∃ dx vs, H a = some (XcO a C dx vs) ∧ ∀ d, dx = some d → ∃ fs, H d = some (.xd fs)
end
end L2

set_option Elab.async false
set_option linter.all false
set_option maxRecDepth 100000
set_option maxHeartbeats 4000000
namespace PySem
open L2 (xobj)
/-! ## an exception's way through frames: its object is known whole -/
section
variable {M : Model} {A : Around} {E : Value → Shared → Prop} {s : Shared}
end
end PySem
namespace L2
open PySem PySem.Spec PyProof.Rows
/-! ## the callers' view -/
def apart (X : Cx) (h : Heap) (e : Addr) (T : List Addr) : Heap := PySem.W.hideAll h (e :: (T ++ frs X.stack))
section
variable {X : Cx} {pins : List (Addr × Obj)} {σ : St} {H : Hp} {s : Shared} {e C T : Addr} {dx : Option Addr} {vs : Array Value}
end
structure Flies (h : Heap) (H : Hp) (low : Nat) (a C T : Addr) (dx : Option Addr) (vs : Array Value) : Prop where
  at_ : H a = some (XcO a C dx vs)
  tr : vs[1]? = some (.ref T)
  new : low ≤ T
  free : H T = none
  ne : T ≠ a
  dict : ∀ y, dx = some y → ∃ fs, H y = some (.xd fs)
  recd : ∃ oT ts, h.get? T = some oT ∧ oT.data = .fields ts ∧ ts[3]? = some .none
def CX1 (P : Program) (w : World) : CXT := fun outer H s E e s' => ∃ (a T C : Addr) (dx : Option Addr) (vs : Array Value) (H' : Hp), e = .ref a ∧ s'.os = s.os ∧ AllBare s'.gens ∧ Un (frs outer) [] H H' s.heap s'.heap ∧ HOk P w H' s'.heap ∧ s.heap.objs.size ≤ s'.heap.objs.size ∧
  Flies s'.heap H' s.heap.objs.size a C T dx vs ∧ ∀ vs', E (.ref C) (some a) (upd H' a (XcO a C dx vs'))
end L2

set_option Elab.async false
set_option linter.all false
set_option maxRecDepth 100000
set_option maxHeartbeats 4000000
namespace L2
open PySem PySem.Spec PyProof.Rows
section
variable {X : Cx} {pins : List (Addr × Obj)} {σ : St} {H H1 : Hp} {s s1 : Shared} {a C T : Addr} {dx : Option Addr} {vs : Array Value}
end
/-! ### an exception leaves a def -/
section
variable {P : Program} {w : World} {K : PySem.W.Frag} {mg : Str → Option Value} {base : Heap} {N : List Str} {qual : Str} {scope : Scope} {f : Addr} {cd : Value} {A : Around} {outer : List Env} {s₀ : Shared} {H₀ : Hp} {E : XK}
end
/-! ### an exception is made -/
section
variable {X : Cx} {pins : List (Addr × Obj)} {σ : St} {H : Hp} {s : Shared}
end
structure XMk (K : PySem.W.Frag) (C : Addr) (ini : Option Addr) : Prop where
  cls : XCls K C
  xc : PySem.W.xcIn K C ini = true
  kp : PySem.W.keepIn K (.ref C) = true
  fn : ∀ f, ini = some f → PySem.W.isFn K (.ref f) = true
def spXInit (K : PySem.W.Frag) (C : Addr) (f : Str) : Sp := fun vs H Q _ => ∃ a v ws, vs = [.ref a, v] ∧ XCls K C ∧ NoAttr K C f ∧ H a = some (XcO a C none ws) ∧
  ∀ d H2, (∀ b o, b ≠ a → H b = some o → H2 b = some o) → H d = none → H2 a = some (XcO a C (some d) ws) → H2 d = some (.xd [(f, v)]) → Q .non H2
section
variable {X : Cx} {k : Nat} {fI C : Addr} {fd : FuncData} {ps : List Str} {x fn : Str} {p pos : Pos} {e : Expr} {es : List Expr} {t : TA}
end
/-! ### raise -/
section
variable {P : Program} {w : World} {K : PySem.W.Frag} {mg : Str → Option Value} {base : Heap} {N : List Str} {qual : Str} {scope : Scope} {f : Addr} {cd : Value} {A : Around} {outer : List Env} {s₀ : Shared} {H₀ : Hp} {E : XK}
end
end L2

set_option Elab.async false
set_option linter.all false
set_option maxRecDepth 100000
set_option maxHeartbeats 4000000
namespace L2
open PySem PySem.Spec PyProof.Rows
/-! ## try: the body at one state of the names -/
section
variable {X : Cx} {σ : St}
end
/-! ### the context of a try's body; of a handler's suite -/
structure Aside (X : Cx) (pins : List (Addr × Obj)) (b : Addr) : Prop where
  p : X.s₀.heap.objs.size ≤ b ∧ b ≠ X.env.locals ∧ (∀ x c, X.env.cells.lookup x = some c → c ≠ b) ∧ ∀ p ∈ X.pn ++ pins, p.1 ≠ b
section
variable {X : Cx} {pins pins' : List (Addr × Obj)} {σ τ : St} {H : Hp} {s : Shared} {W : XK}
end
structure Cal1 (P : Program) (w : World) (K : PySem.W.Frag) (mg : Str → Option Value) (base : Heap) (x : Str) (k : Nat) (ps : List Str) (sp : Sp) : Prop where
  ex : ∃ f fd, FnOk P w K mg base (CX1 P w) k f fd ps sp ∧ Binds K fd ps [] ∧ mg x = some (.ref f) ∧ PySem.W.keepIn K (.ref f) = true
section
variable {X : Cx} {k : Nat} {ps : List Str} {sp : Sp} {x : Str} {p pos : Pos} {e : Expr} {es : List Expr} {t : TA}
end
/-! ### handlers -/
abbrev TH := Addr → Addr → Hp → St → Ends → Prop
structure AtH (X : Cx) (pins : List (Addr × Obj)) (σ : St) (H : Hp) (a C : Addr) (dx : Option Addr) (s : Shared) : Prop where
  I : Inv X pins σ H s
  ex : ∃ T vs, Flies s.heap H 0 a C T dx vs ∧ Aside X pins T
section
variable {X : Cx} {Dc : Addr} {i : Nat} {n d : Str} {np pos : Pos} {b₀ : Stmt} {suite : List Stmt} {rest : List ExceptHandler} {ts : TS} {tr : TH}
end
end L2

set_option Elab.async false
set_option linter.all false
set_option maxRecDepth 100000
set_option maxHeartbeats 4000000
namespace L2
open PySem PySem.Spec PyProof.Rows
/-! ## exceptions in short words -/
inductive TyX (K : PySem.W.Frag) (H : Hp) : V → Value → Prop where
  | old {x : V} {t : Value} (h : TyOf K H x t) : TyX K H x t
  | exc {a C : Addr} (h : IsX K H a C) : TyX K H (.ref a) (.ref C)
section
variable {X : Cx}
end
/-! ### facts of classes, by their rows of classes above -/
structure XD (K : PySem.W.Frag) (C : Addr) (up : List Value) : Prop where
  cd : ∃ cd, PySem.W.clsIn K C = some cd ∧ cd.mro = .ref C :: up
  ty : PySem.W.typeIn K (.ref C) = some (.type "type")
structure XCal (P : Program) (w : World) (K : PySem.W.Frag) (mg : Str → Option Value) (base : Heap) (x : Str) (C : Addr) (f : Str) : Prop where
  ex : ∃ fI fd ps, XMk K C (some fI) ∧ NoAttr K C f ∧ FnOk P w K mg base CX0 1 fI fd ps (spXInit K C f) ∧ Binds K fd ps [] ∧ mg x = some (.ref C)
structure XCal0 (K : PySem.W.Frag) (mg : Str → Option Value) (x : Str) (C : Addr) : Prop where
  made : XMk K C none
  m : mg x = some (.ref C)
section
variable {X : Cx} {C : Addr} {f x : Str} {p pos : Pos} {e : Expr} {es : List Expr} {t : TA}
end
section
variable {X : Cx}
end
end L2

set_option Elab.async false
set_option linter.all false
set_option maxRecDepth 100000
set_option maxHeartbeats 4000000
namespace L2
open PySem PySem.Spec PyProof.Rows
section
variable {X : Cx}
end
structure Told (K : PySem.W.Frag) (H : Hp) (a C : Addr) (f : Str) (v : V) : Prop where
  ex : ∃ d ws, H a = some (XcO a C (some d) ws) ∧ H d = some (.xd [(f, v)])
/-! ### a claim -/
structure Cl where
  n : Int
  wt : Int
  wb : Int
  st : Int
  sb : Int
  came : Int
structure Cl.Ok (c : Cl) : Prop where
  n0 : 0 ≤ c.n
  w0 : 0 ≤ c.wt
  w1 : c.wt ≤ 1000000
  w2 : 1 ≤ c.wb
  w3 : c.wb ≤ 12
  s0 : 0 ≤ c.st
  s1 : c.st ≤ 1000000
  s2 : 1 ≤ c.sb
  s3 : c.sb ≤ 12
  c0 : 0 ≤ c.came
  c1 : c.came ≤ 1000000000000000
structure IsCl (K : PySem.W.Frag) (H : Hp) (p : Addr) (c : Cl) : Prop where
  ex : ∃ pw ps, H p = some (.tup [.int c.n, .ref pw, .ref ps, .int c.came]) ∧ H pw = some (.tup [.int c.wt, .int c.wb]) ∧ H ps = some (.tup [.int c.st, .int c.sb])
theorem IsCl.same {K : PySem.W.Frag} {H H' : Hp} {p : Addr} {c : Cl} (s : Same H H') (h : IsCl K H p c) : IsCl K H' p c := let ⟨pw, ps, a, b, d⟩ := h.ex; ⟨pw, ps, s _ _ a, s _ _ b, s _ _ d⟩
end L2

set_option Elab.async false
set_option linter.all false
set_option maxRecDepth 100000
set_option maxHeartbeats 4000000
namespace L2
open PySem PySem.Spec PyProof.Rows
/-! ## what is changed: the heap behind is a letter -/
def But (p : Addr) (H H' : Hp) : Prop := ∀ b o, b ≠ p → H b = some o → H' b = some o
theorem Same.but {p : Addr} {H0 H H' : Hp} (s : Same H0 H) (n : H0 p = none) (b : But p H H') : Same H0 H' := fun c o h => b c o (ne_of_none h n) (s c o h)
theorem But.upd (p : Addr) (H : Hp) (o : HO) : But p H (L2.upd H p o) := fun c u hc h => by rw [upd_ne hc]; exact h
theorem IsCl.but {K : PySem.W.Frag} {H H' : Hp} {p q : Addr} {c : Cl} {xs : List V} (b : But q H H') (hq : H q = some (.lst xs)) (h : IsCl K H p c) : IsCl K H' p c := by
  obtain ⟨pw, ps, e1, e2, e3⟩ := h.ex
  exact ⟨pw, ps, b _ _ (ne_of e1 hq (by intro z; cases z)) e1, b _ _ (ne_of e2 hq (by intro z; cases z)) e2, b _ _ (ne_of e3 hq (by intro z; cases z)) e3⟩
section
variable {X : Cx}
def rAppendS : V → List V → Hp → VK → Prop := fun x vs H Q => ∃ l xs y, x = .ref l ∧ vs = [y] ∧ H l = some (.lst xs) ∧ xs.length < sizeLine ∧ ∀ H2, But l H H2 → H2 l = some (.lst (xs ++ [y])) → Q .non H2
theorem mt_appendS : MtR X "list.append" rAppendS := by
  intro pins s σ H x vs v us Q I rx rv h
  obtain ⟨l, xs, y, e1, e2, hp, hz, q⟩ := h
  exact mt_append pins s σ H x vs v us Q I rx rv ⟨l, xs, y, e1, e2, hp, hz, q _ (But.upd l H _) upd_same⟩
def rSlLS (K : PySem.W.Frag) : V → Option Int → Option Int → Hp → VK → Prop := fun x lo hi H Q => ∃ a xs, x = .ref a ∧ SqL K H a xs ∧ ∀ p H2, Same H H2 → H p = none → H2 p = some (.lst (cutV xs lo hi)) → Q (.ref p) H2
theorem sl_listS : SlR X (rSlLS X.K) := by
  intro pins s σ H v u vl vu lo hi sl Q I rx hs pl pu h
  obtain ⟨a, xs, e, hx, q⟩ := h
  exact sl_list pins s σ H v u vl vu lo hi sl Q I rx hs pl pu ⟨a, xs, e, hx, fun p n => q p _ (same_new n _) n upd_same⟩
end
structure IsW (H : Hp) (p : Addr) (t b : Int) : Prop where
  at_ : H p = some (.tup [.int t, .int b])
  t0 : 0 ≤ t
  t1 : t ≤ 1000000
  b0 : 1 ≤ b
  b1 : b ≤ 12
theorem IsW.same {H H' : Hp} {p : Addr} {t b : Int} (s : Same H H') (h : IsW H p t b) : IsW H' p t b := ⟨s _ _ h.at_, h.t0, h.t1, h.b0, h.b1⟩
end L2

set_option Elab.async false
set_option linter.all false
namespace L2
open PySem
/-! ## two claims: who is ahead, who passes whom -/
def wtop (c : Cl) (t : Int) : Int := c.wt * c.sb + (t - c.came) * c.st * c.wb
def wbot (c : Cl) : Int := c.wb * c.sb
theorem bot_pos {c : Cl} (h : c.Ok) : 0 < wbot c := Int.mul_pos (by have := h.w2; omega) (by have := h.s2; omega)
theorem bot_le {c : Cl} (h : c.Ok) : wbot c ≤ 144 := by
  have : c.wb * c.sb ≤ 12 * 12 := Int.mul_le_mul h.w3 h.s3 (by have := h.s2; omega) (by decide)
  exact this
def gap (c d : Cl) (t : Int) : Int := wtop c t * wbot d - wtop d t * wbot c
theorem gap_swap (c d : Cl) (t : Int) : gap d c t = - gap c d t := by unfold gap; omega
def tie (c d : Cl) : Bool := decide (c.came < d.came ∨ (c.came = d.came ∧ c.n < d.n))
def ahd (c d : Cl) (t : Int) : Bool := if gap c d t = 0 then tie c d else decide (0 < gap c d t)
theorem tie_swap {c d : Cl} (h : c.n ≠ d.n) : tie d c = !tie c d := by
  unfold tie
  rw [Bool.eq_iff_iff, Bool.not_eq_true', decide_eq_true_iff, decide_eq_false_iff_not]
  omega
theorem ahd_swap {c d : Cl} (h : c.n ≠ d.n) (t : Int) : ahd d c t = !ahd c d t := by
  unfold ahd
  rw [gap_swap c d t]
  by_cases z : gap c d t = 0
  · rw [if_pos (by omega), if_pos z, tie_swap h]
  · rw [if_neg (by omega), if_neg z, Bool.eq_iff_iff, Bool.not_eq_true', decide_eq_true_iff, decide_eq_false_iff_not]
    omega
inductive Pass (b l : Cl) (t : Int) : V → Prop where
  | no (h : ∀ u, t ≤ u → ahd b l u = false) : Pass b l t .non
  | at_ (u : Int) (h1 : t < u) (h2 : ahd b l u = true) (h3 : ∀ v, t ≤ v → v < u → ahd b l v = false) : Pass b l t (.int u)
structure PassOf (c d : Cl) (t : Int) (v : V) : Prop where
  one : ahd c d t = true → Pass d c t v
  two : ahd c d t = false → Pass c d t v
structure IsLc (H : Hp) (l : Addr) (n : Int) (c : Int) : Prop where
  ex : ∃ w s t b u d, H l = some (.lst [.int n, .ref w, .ref s, .int c]) ∧ IsW H w t b ∧ IsW H s u d
  c0 : 0 ≤ c
  c1 : c ≤ 1000000000000000
/-! ### products crosswise, in lowest terms or not -/
end L2

set_option Elab.async false
set_option linter.all false
set_option maxRecDepth 100000
set_option maxHeartbeats 4000000
namespace L2
open PySem PySem.Spec PyProof.Rows
/-! ## lists that are changed -/
section
variable {X : Cx}
end
end L2

set_option Elab.async false
set_option linter.all false
set_option maxRecDepth 100000
set_option maxHeartbeats 4000000
namespace L2
open PySem PySem.Spec PyProof.Rows
/-! ## enumerate -/
theorem Inv.turnedL {X : Cx} {pins : List (Addr × Obj)} {σ : St} {H : Hp} {s : Shared} {h' : Heap} {t' : Nat} {fp : List Addr} (I : Inv X pins σ H s) (k : ∀ b o, b ∉ fp → s.heap.get? b = some o → h'.get? b = some o) (hf : ∀ b ∈ fp, FpOk X pins H b) :
    Inv X pins σ H { s with heap := h', toks := t' } := by
  have nit : ∀ b u, H b = some u → b ∉ fp := fun b u e z => by rw [(hf b z).1] at e; cases e
  refine I.step (g' := s.gens) (d' := s.drawn) (ch := fp) (fun b hb => ?_) (fun b o _ _ hc e _ => k b o hc e) (fun b o _ _ hc e _ => ⟨o.slots, k b o hc e⟩) (fun _ _ _ _ n => n)
    (fun b o hc e => ⟨o, k b o hc e⟩) (fun _ _ e => e) (fun _ _ _ e => e) (fun _ _ _ e => e) (fun m hm => ?_) (fun b u e => ?_) I.bare
  · obtain ⟨f0, f1, f2, f3, f4, f5⟩ := hf b hb
    exact ⟨f3, f1, f4, f5⟩
  · obtain ⟨o, es, ep, ho, r⟩ := hm
    exact ⟨o, es, ep, k _ o (fun z => (hf _ z).2.1 rfl) ho, r⟩
  · refine (I.hok b u e).stay (fun c v hc q => k c v ?_ q) (fun _ q => q) (fun _ _ q => q) fun _ _ _ q => q
    rcases hc with z | z
    · rw [z]; exact nit b u e
    · exact nit c _ z
def Ite (K : PySem.W.Frag) (a : Addr) : It :=
  ⟨fun i H => ∃ xs x, SqL K H a xs ∧ xs[i]? = some x, fun i H x H' => ∃ p y, x = .ref p ∧ Same H H' ∧ H p = none ∧ H' p = some (.tup [.int i, y]) ∧ ∀ xs, SqL K H a xs → xs[i]? = some y, fun i H => ∃ xs, SqL K H a xs ∧ xs.length ≤ i⟩
theorem turn_enum {P : Program} {w : World} {K : PySem.W.Frag} {elts : List Expr} {x1} {pos : Pos} (a e it : Addr) (hne : e ≠ it) :
    Turn P w K (.Tuple elts x1 pos) (Ite K a) [e, it] e (fun i h => (∃ old, IsEnum h e it i old) ∧ h.IsListIter it a i) where
  mem := by simp
  obj := fun i h st b hb => by
    obtain ⟨⟨old, he⟩, o, ho, c, d⟩ := st
    rcases List.mem_cons.mp hb with rfl | hb
    · exact ⟨_, he, fun v z => by
        have z' : Data.fields _ = Data.cell v := z
        cases z'⟩
    · have e : b = it := by simpa using hb
      subst e
      exact ⟨o, ho, fun v z => by rw [d] at z; cases z⟩
  keep := fun i h h' st k => ⟨let ⟨old, he⟩ := st.1; ⟨old, k e (by simp) _ he⟩, st.2.at fun o q => k it (by simp) o q⟩
  item := by
    intro X hP hw hK hc i pins s σ H E I hf st hg
    subst hP hw hK
    obtain ⟨xs, x, hq, hx⟩ := hg
    obtain ⟨its, rv, p, hz⟩ := I.list hq
    obtain ⟨u, hu, ru⟩ := rv.get hx
    obtain ⟨⟨old, he⟩, hit⟩ := st
    have el : e < s.heap.objs.size := Heap.lt_size he
    have il : it < s.heap.objs.size := by obtain ⟨o, y, _⟩ := id hit; exact Heap.lt_size y
    refine wpAny_pyNext_enum_item he hit p.isList (x := u) (by simpa using hu) hne fun h' ho hit' hT hsz hk => ?_
    refine ⟨_, rfl, wpAny_letOwnedTupleGo_enum ho fun h'' he'' hs'' => ?_⟩
    have fr : H s.heap.objs.size = none := I.hok.fresh (Nat.le_refl _)
    have I1 : Inv X pins σ (upd H s.heap.objs.size (.tup [.int i, x])) { s with heap := s.heap.push { cls := .type "tuple", data := .seq #[.int i s.toks, u] }, toks := s.toks } :=
      I.laid (fun b o q => Heap.get?_push_of_some _ q) (Nat.le_refl _) ⟨by show 2 ≤ sizeLine; decide, [.int i s.toks, u], .cons ⟨_, rfl⟩ (.cons ru .nil), _, Heap.get?_push_size _ rfl, rfl, _, rfl⟩
    have hf1 : ∀ b ∈ [e, it], FpOk X pins (upd H s.heap.objs.size (.tup [.int i, x])) b := fun b hb => by
      have nb : b ≠ s.heap.objs.size := by
        simp only [List.mem_cons, List.not_mem_nil, or_false] at hb
        rcases hb with rfl | rfl
        · exact Nat.ne_of_lt el
        · exact Nat.ne_of_lt il
      exact ⟨by rw [upd_ne nb]; exact (hf b hb).1, (hf b hb).2⟩
    have I2 : Inv X pins σ (upd H s.heap.objs.size (.tup [.int i, x])) { s with heap := h'', toks := s.toks + 1 } := by
      refine Inv.turnedL (s := { s with heap := s.heap.push { cls := .type "tuple", data := .seq #[.int i s.toks, u] }, toks := s.toks }) (fp := [e, it]) I1 (fun b o hb q => ?_) hf1
      have q : (s.heap.push { cls := .type "tuple", data := .seq #[.int i s.toks, u] }).get? b = some o := q
      simp only [List.mem_cons, List.not_mem_nil, or_false, not_or] at hb
      refine hs''.extBut b o hb.1 ?_
      rcases Heap.get?_push_cases q with ⟨e1, e2⟩ | q'
      · subst e1 e2
        exact hT
      · exact hk b o hb.1 hb.2 q'
    refine ⟨.ref s.heap.objs.size, _, I2, rfl, ⟨_, x, rfl, same_new fr _, fr, upd_same, fun ys hy => by rw [I.list_inj hy hq]; exact hx⟩, ⟨⟨_, by simpa using he''⟩, hit'.extBut hs''.extBut (Ne.symm hne)⟩, fun b hb => (hf1 b hb).1⟩
  done := by
    intro X hP hw hK hc i pins s σ H E I hf st hg
    subst hP hw hK
    obtain ⟨xs, hq, hx⟩ := hg
    obtain ⟨its, rv, p, hz⟩ := I.list hq
    obtain ⟨f0, f1, f2, f3, f4, f5⟩ := hf it (by simp)
    obtain ⟨⟨old, he⟩, hit⟩ := st
    have hl := rv.length
    exact wpAny_pyNext_enum_end (I.ok.hd hc) he hit p.isList (by simp; omega) fun h' eb => ⟨rfl, I.turned (t' := s.toks) (fun b o hb e => eb b o hb e) f0 f1 f3 f4 f5⟩
  self := fun _ _ _ _ _ st h => let ⟨_, he⟩ := st.1; wpAny_pyIter_enum he h
theorem bt_enumerate : bootBuiltins "enumerate" = some (.type "enumerate") := by decide +kernel
def iEnum (K : PySem.W.Frag) (ta : TA) : TI := fun σ H R => ta σ H fun vs H1 => ∃ a, vs = [.ref a] ∧ (∃ xs, SqL K H1 a xs) ∧ R (Ite K a) H1
theorem pi_enum {X : Cx} {elts : List Expr} {x1} {pos' : Pos} {a : Expr} {ta : TA} {p pos : Pos} (hg : Gl X "enumerate") (hm : X.mg "enumerate" = none) (ha : PA X [a] ta) (hs : starEach [a] X.env = [(false, eval a X.env)] := by rfl) :
    PI X (.Tuple elts x1 pos') (.Call (.Name "enumerate" p) [a] [] pos) (iEnum X.K ta) := by
  with_unfolding_all
    intro pins s σ H R I h
    refine Call_ (ld_blt I hg hm bt_enumerate (PyProof.Rows.callWith_type1 (thn (ha pos pins s σ H _ I h) fun us s1 ⟨vs, H1, I1, r1, q1⟩ => ?_) hs rfl))
    obtain ⟨l, e, ⟨xs, hq⟩, q⟩ := q1
    subst e
    cases r1 with
    | cons r rr =>
      cases rr
      cases r
      obtain ⟨its, rv, pl, hz⟩ := I1.list hq
      refine call_enumerate_list pl.isList fun h' he hit hsz hk => ?_
      refine wpAny_pyIter_enum he ?_
      have I2 : Inv X pins σ H1 { s1 with heap := h', toks := s1.toks } := I1.kept hk
      refine ⟨s1.heap.objs.size + 1, [s1.heap.objs.size + 1, s1.heap.objs.size], _, _, H1, rfl, I2, turn_enum l _ _ (Nat.succ_ne_self _), ⟨⟨_, he⟩, hit⟩, fun b hb => ?_, q⟩
      simp only [List.mem_cons, List.not_mem_nil, or_false] at hb
      rcases hb with rfl | rfl
      · exact I1.fpOk (Nat.le_succ _) (I1.hok.fresh (Nat.le_succ _))
      · exact I1.fpOk (Nat.le_refl _) (I1.hok.fresh (Nat.le_refl _))
theorem for_enum {K : PySem.W.Frag} {a : Addr} {xs : List V} {g : TG} {tb : TS} {D : Ends} {σ : St} {H : Hp} (Pv : Nat → St → Hp → Prop) (h0 : Pv 0 σ H) (hl : ∀ i σ H, i ≤ xs.length → Pv i σ H → SqL K H a xs)
    (hs : ∀ i x σ H p H1, xs[i]? = some x → Pv i σ H → Same H H1 → H p = none → H1 p = some (.tup [.int i, x]) → g (.ref p) σ H1 fun σ2 H2 => tb { D with nx := Pv (i + 1), ct := Pv (i + 1), bk := D.nx } σ2 H2) (hd : ∀ σ H, Pv xs.length σ H → D.nx σ H) :
    ∃ W : Nat → Nat → St → Hp → Prop, (∃ m, W 0 m σ H) ∧ ∀ i m σ H, W i m σ H →
      ((Ite K a).stop i H ∧ D.nx σ H) ∨ ((Ite K a).go i H ∧ ∃ N : St → Hp → Prop, (∀ σ' H', N σ' H' → ∃ m', m' < m ∧ W (i + 1) m' σ' H') ∧ ∀ x H', (Ite K a).yld i H x H' → g x σ H' fun σ2 H2 => tb { D with nx := N, ct := N, bk := D.nx } σ2 H2) := by
  refine ⟨fun i m σ H => m = xs.length - i ∧ i ≤ xs.length ∧ Pv i σ H, ⟨xs.length, by simp, Nat.zero_le _, h0⟩, ?_⟩
  rintro i m σ H ⟨rfl, hi, p⟩
  have q := hl i σ H hi p
  by_cases hlt : i < xs.length
  · refine .inr ⟨⟨xs, xs[i], q, by simp [hlt]⟩, Pv (i + 1), fun σ' H' p' => ⟨xs.length - (i + 1), by omega, rfl, hlt, p'⟩, fun x H' y => ?_⟩
    obtain ⟨pp, y', rfl, sm, n0, h1, y⟩ := y
    exact hs i y' σ H pp H' (y xs q) p sm n0 h1
  · have e : i = xs.length := by omega
    subst e
    exact .inl ⟨⟨xs, q, Nat.le_refl _⟩, hd σ H p⟩
end L2

set_option Elab.async false
set_option linter.all false
set_option maxRecDepth 100000
set_option maxHeartbeats 4000000
namespace L2
open PySem PySem.Spec PyProof.Rows
section
variable {X : Cx}
end
end L2

set_option Elab.async false
set_option linter.all false
set_option maxRecDepth 100000
set_option maxHeartbeats 4000000
namespace L2
open PySem PySem.Spec PyProof.Rows
/-! ## == of things within things, that are alike -/
section
variable {X : Cx} {pins : List (Addr × Obj)} {σ : St} {H : Hp} {s : Shared}
end
section
variable {X : Cx}
end
end L2

set_option Elab.async false
set_option linter.all false
namespace L2
open PySem
/-! ## the order of claims at a turn -/
theorem gap_chain (c d e : Cl) (t : Int) : gap c e t * wbot d = gap c d t * wbot e + gap d e t * wbot c := by
  unfold gap
  rw [Int.sub_mul, Int.sub_mul, Int.sub_mul]
  rw [show wtop c t * wbot e * wbot d = wtop c t * wbot d * wbot e by ac_rfl, show wtop e t * wbot c * wbot d = wtop e t * wbot d * wbot c by ac_rfl, show wtop d t * wbot e * wbot c = wtop d t * wbot c * wbot e by ac_rfl]
  omega
theorem ahd_iff {c d : Cl} {t : Int} : ahd c d t = true ↔ 0 < gap c d t ∨ (gap c d t = 0 ∧ tie c d = true) := by
  unfold ahd
  by_cases z : gap c d t = 0
  · rw [if_pos z]
    constructor
    · intro h
      exact .inr ⟨z, h⟩
    · rintro (h | h)
      · omega
      · exact h.2
  · rw [if_neg z, decide_eq_true_iff]
    constructor
    · exact .inl
    · rintro (h | h)
      · exact h
      · exact absurd h.1 z
theorem tie_trans {c d e : Cl} (h1 : tie c d = true) (h2 : tie d e = true) : tie c e = true := by
  unfold tie at *
  rw [decide_eq_true_iff] at *
  omega
theorem ahd_trans {c d e : Cl} {t : Int} (oc : c.Ok) (od : d.Ok) (oe : e.Ok) (h1 : ahd c d t = true) (h2 : ahd d e t = true) : ahd c e t = true := by
  rw [ahd_iff] at *
  have k := gap_chain c d e t
  have b1 := bot_pos oc
  have b2 := bot_pos od
  have b3 := bot_pos oe
  have g1 : 0 ≤ gap c d t := by omega
  have g2 : 0 ≤ gap d e t := by omega
  have m1 := Int.mul_nonneg g1 (show 0 ≤ wbot e by omega)
  have m2 := Int.mul_nonneg g2 (show 0 ≤ wbot c by omega)
  rcases h1 with h1 | ⟨z1, h1⟩
  · have := Int.mul_pos h1 b3
    refine .inl (Int.not_le.mp fun le => ?_)
    have := Int.mul_nonpos_of_nonpos_of_nonneg le (show 0 ≤ wbot d by omega)
    omega
  · rcases h2 with h2 | ⟨z2, h2⟩
    · have := Int.mul_pos h2 b1
      refine .inl (Int.not_le.mp fun le => ?_)
      have := Int.mul_nonpos_of_nonpos_of_nonneg le (show 0 ≤ wbot d by omega)
      omega
    · refine .inr ⟨?_, tie_trans h1 h2⟩
      rw [z1, z2, Int.zero_mul, Int.zero_mul, Int.add_zero] at k
      rcases Int.mul_eq_zero.mp k with z | z
      · exact z
      · omega
def ins (t : Int) (c : Cl) : List Cl → List Cl
  | [] => [c]
  | d :: ds => if ahd d c t = true then d :: ins t c ds else c :: d :: ds
def ord (cs : List Cl) (t : Int) : List Cl := cs.foldl (fun acc c => ins t c acc) []
theorem ins_perm (t : Int) (c : Cl) : ∀ l, (ins t c l).Perm (c :: l)
  | [] => .refl _
  | d :: ds => by
    unfold ins
    split
    · exact ((ins_perm t c ds).cons d).trans (.swap c d ds)
    · exact .refl _
theorem ord_go_perm (t : Int) : ∀ (cs acc : List Cl), (cs.foldl (fun acc c => ins t c acc) acc).Perm (cs ++ acc)
  | [], acc => .refl _
  | c :: cs, acc => by
    rw [List.foldl_cons]
    refine (ord_go_perm t cs (ins t c acc)).trans ?_
    refine ((ins_perm t c acc).append_left cs).trans ?_
    exact List.perm_middle
theorem ord_perm (cs : List Cl) (t : Int) : (ord cs t).Perm cs := by
  have := ord_go_perm t cs []
  rw [List.append_nil] at this
  exact this
structure Good (cs : List Cl) : Prop where
  ok : ∀ c, c ∈ cs → c.Ok
  nd : (cs.map (·.n)).Nodup
abbrev Srt (t : Int) (l : List Cl) : Prop := l.Pairwise fun c d => ahd c d t = true
theorem ins_srt {t : Int} {c : Cl} (oc : c.Ok) : ∀ {l : List Cl}, (∀ d, d ∈ l → d.Ok ∧ d.n ≠ c.n) → Srt t l → Srt t (ins t c l)
  | [], _, _ => List.pairwise_singleton _ _
  | d :: ds, ho, hs => by
    obtain ⟨h1, h2⟩ := List.pairwise_cons.mp hs
    obtain ⟨od, nd⟩ := ho d (List.mem_cons_self ..)
    have ho' : ∀ e, e ∈ ds → e.Ok ∧ e.n ≠ c.n := fun e he => ho e (List.mem_cons_of_mem _ he)
    unfold ins
    split
    · rename_i hd
      refine List.pairwise_cons.mpr ⟨fun e he => ?_, ins_srt oc ho' h2⟩
      rcases List.mem_cons.mp ((ins_perm t c ds).mem_iff.mp he) with rfl | he
      · exact hd
      · exact h1 e he
    · rename_i hd
      have cd : ahd c d t = true := by
        rw [ahd_swap nd]
        simpa using hd
      refine List.pairwise_cons.mpr ⟨fun e he => ?_, hs⟩
      rcases List.mem_cons.mp he with rfl | he
      · exact cd
      · exact ahd_trans oc od (ho' e he).1 cd (h1 e he)
theorem ord_go_srt (t : Int) : ∀ (cs acc : List Cl), Good (cs ++ acc) → Srt t acc → Srt t (cs.foldl (fun acc c => ins t c acc) acc)
  | [], acc, _, h => h
  | c :: cs, acc, g, h => by
    rw [List.foldl_cons]
    have g' : Good (cs ++ ins t c acc) := by
      have pm : (cs ++ ins t c acc).Perm (c :: cs ++ acc) := ((ins_perm t c acc).append_left cs).trans List.perm_middle
      exact ⟨fun e he => g.ok e (pm.mem_iff.mp he), (pm.map (·.n)).nodup_iff.mpr g.nd⟩
    refine ord_go_srt t cs _ g' (ins_srt (g.ok c (by simp)) (fun d hd => ⟨g.ok d (by simp [hd]), fun e => ?_⟩) h)
    have nd := g.nd
    rw [List.cons_append, List.map_cons, List.nodup_cons] at nd
    exact nd.1 (by rw [← e]; exact List.mem_map.mpr ⟨d, by simp [hd], rfl⟩)
theorem ord_srt {cs : List Cl} (g : Good cs) (t : Int) : Srt t (ord cs t) := ord_go_srt t cs [] (by rw [List.append_nil]; exact g) .nil
theorem ahd_asymm {c d : Cl} {t : Int} (h1 : ahd c d t = true) (h2 : ahd d c t = true) : False := by
  rw [ahd_iff] at *
  rw [gap_swap c d t] at h2
  have z : gap c d t = 0 := by omega
  have t1 : tie c d = true := by
    rcases h1 with h | h
    · omega
    · exact h.2
  have t2 : tie d c = true := by
    rcases h2 with h | h
    · omega
    · exact h.2
  unfold tie at t1 t2
  rw [decide_eq_true_iff] at t1 t2
  omega
theorem srt_uniq {t : Int} : ∀ {l m : List Cl}, l.Perm m → Srt t l → Srt t m → l = m
  | [], m, p, _, _ => (List.Perm.nil_eq p)
  | c :: l, [], p, _, _ => absurd (List.Perm.length_eq p) (by simp)
  | c :: l, d :: m, p, hl, hm => by
    obtain ⟨l1, l2⟩ := List.pairwise_cons.mp hl
    obtain ⟨m1, m2⟩ := List.pairwise_cons.mp hm
    have e : c = d := by
      rcases List.mem_cons.mp (p.mem_iff.mp (List.mem_cons_self (a := c) (l := l))) with e | hc
      · exact e
      · rcases List.mem_cons.mp (p.mem_iff.mpr (List.mem_cons_self (a := d) (l := m))) with e | hd
        · exact e.symm
        · exact (ahd_asymm (l1 d hd) (m1 c hc)).elim
    subst e
    rw [srt_uniq ((List.perm_cons c).mp p) l2 m2]
theorem ord_uniq {cs l : List Cl} {t : Int} (g : Good cs) (p : l.Perm cs) (h : Srt t l) : l = ord cs t := srt_uniq (p.trans (ord_perm cs t).symm) h (ord_srt g t)
end L2

set_option Elab.async false
set_option linter.all false
set_option maxRecDepth 100000
set_option maxHeartbeats 4000000
namespace L2
open PySem PySem.Spec PyProof.Rows
theorem comp_list {K : PySem.W.Frag} {a : Addr} {xs : List V} {js : List Nat} {tc : TT} {te : TE} {σ : St} {H1 : Hp} {Q : VK} (p : Nat → Bool) (f : Nat → V) (hl : SqL K H1 a xs)
    (ht : ∀ i x Hh (Q' : Bool → Hp → Prop), xs[i]? = some x → Same H1 Hh → (∀ Hh', Same Hh Hh' → Q' (p i) Hh') → tc (some x :: caps σ js) Hh Q')
    (he : ∀ i x Hh (Q' : VK), xs[i]? = some x → p i = true → Same H1 Hh → (∀ Hh', Same Hh Hh' → Q' (f i) Hh') → te (some x :: caps σ js) Hh Q')
    (hz : xs.length < sizeLine) (q : ∀ D H2, Same H1 H2 → H1 D = none → H2 D = some (.lst (((List.range xs.length).filter p).map f)) → Q (.ref D) H2) :
    CompGo (Itl K a) js tc te σ H1 Q := by
  intro D H2 s2 hD h2
  refine ⟨fun i m acc H3 => m = xs.length - i ∧ i ≤ xs.length ∧ acc = ((List.range i).filter p).map f ∧ Same H1 H3 ∧ H3 D = some (.lst acc), ⟨_, rfl, Nat.zero_le _, by simp, s2, h2⟩, ?_⟩
  rintro i m acc H3 ⟨rfl, hi, ea, s3, h3⟩
  have hl3 : SqL K H3 a xs := s3.seq hl
  have hll : acc.length ≤ xs.length := by
    rw [ea, List.length_map]
    refine Nat.le_trans (List.length_filter_le _ _) ?_
    rw [List.length_range]
    exact hi
  refine ⟨h3, by omega, ?_⟩
  by_cases hlt : i < xs.length
  · have hx : xs[i]? = some xs[i] := List.getElem?_eq_getElem hlt
    refine .inr ⟨⟨xs, _, hl3, hx⟩, fun y H4 z => ?_⟩
    obtain ⟨e, ey⟩ := z
    have ey2 := ey xs hl3
    subst e
    refine ht i y _ _ ey2 s3 fun H5 s5 => ?_
    have h5 := s5 _ _ h3
    have s35 := s3.trans s5
    have tk : (List.range (i + 1)).filter p = (List.range i).filter p ++ (if p i = true then [i] else []) := by
      rw [List.range_succ, List.filter_append]
      congr 1
      cases h : p i <;> simp [h]
    cases hp : p i with
    | true =>
      refine iteT (he i y _ _ ey2 hp s35 fun H6 s6 => ⟨s6 _ _ h5, fun H7 k7 h7 => ⟨xs.length - (i + 1), by omega, rfl, hlt, ?_, fun b o e => ?_, h7⟩⟩)
      · rw [tk, hp, if_pos rfl, List.map_append, ← ea]
        rfl
      · by_cases hb : b = D
        · subst hb
          rw [hD] at e
          cases e
        · exact k7 b o hb (s6 b o (s35 b o e))
    | false =>
      refine iteF ⟨xs.length - (i + 1), by omega, rfl, hlt, ?_, s35, h5⟩
      rw [tk, hp, if_neg Bool.false_ne_true, List.append_nil]
      exact ea
  · have e : i = xs.length := by omega
    subst e
    refine .inl ⟨⟨xs, hl3, Nat.le_refl _⟩, ?_⟩
    rw [ea] at h3
    exact q D _ s3 hD h3
theorem filter_all (n : Nat) : (List.range n).filter (fun _ => true) = List.range n := by
  rw [List.filter_eq_self]
  intro _ _
  rfl
def itm {α : Type} (xs : List α) (g : α → V) (i : Nat) : V := match xs[i]? with
  | some x => g x
  | none => .non
theorem itm_map {α : Type} (g : α → V) : ∀ xs : List α, (List.range xs.length).map (itm xs g) = xs.map g
  | [] => rfl
  | x :: xs => by
    rw [List.length_cons, List.range_succ_eq_map, List.map_cons, List.map_map, List.map_cons, ← itm_map g xs]
    congr 1
/-! ### claims in a list -/
structure IsCs (K : PySem.W.Frag) (H : Hp) (l : Addr) (ps : List (Addr × Cl)) : Prop where
  at_ : H l = some (.lst (ps.map fun q => V.ref q.1))
  cl : ∀ q, q ∈ ps → IsCl K H q.1 q.2
theorem IsCs.same {K : PySem.W.Frag} {H H' : Hp} {l : Addr} {ps : List (Addr × Cl)} (s : Same H H') (h : IsCs K H l ps) : IsCs K H' l ps := ⟨s _ _ h.at_, fun q hq => (h.cl q hq).same s⟩
/-! ### the laws' draws -/
theorem at_3 (x y z : V) {r : Int} (h0 : 0 ≤ r) (h1 : r < 3) : ∃ v, atI [x, y, z] r = some v ∧ (v = x ∨ v = y ∨ v = z) := by
  rcases (by omega : r = 0 ∨ r = 1 ∨ r = 2) with rfl | rfl | rfl
  · exact ⟨x, rfl, .inl rfl⟩
  · exact ⟨y, rfl, .inr (.inl rfl)⟩
  · exact ⟨z, rfl, .inr (.inr rfl)⟩
structure St3 (H : Hp) (a : Addr) : Prop where
  ex : ∃ p q r : Int, H a = some (.lst [.int p, .int q, .int r])
theorem lex_tie (c d : Cl) : HT.lexLt [c.came, c.n] [d.came, d.n] = tie c d := by
  rw [HT.lexLt_cons, HT.lexLt_cons, HT.lexLt_nil_nil]
  unfold tie
  by_cases k : c.came = d.came
  · rw [if_pos k]
    by_cases k2 : c.n = d.n
    · rw [if_pos k2, eq_comm, decide_eq_false_iff_not]
      omega
    · rw [if_neg k2, decide_eq_decide]
      omega
  · rw [if_neg k, decide_eq_decide]
    omega
section
variable {X : Cx} {tg : Expr}
end
end L2

set_option Elab.async false
set_option linter.all false
set_option maxRecDepth 100000
set_option maxHeartbeats 4000000
namespace L2
open PySem PySem.Spec PyProof.Rows
theorem ps_setC {X : Cx} {iter elt : Expr} {x y : Str} {i : Nat} {px py spos : Pos} {ifs : List Expr} {scope : Scope} {pos : Pos} {wi : TI} {N : List Str} {js : List Nat} {tc : TT} {te : TE}
    (hN : X.N.Nodup) (hiN : X.N[i]? = some y) (hyl : X.env.scope.names.lookup y = some .local)
    (hc : X.calm = true) (S : CompScope X scope x N js) (hi : PI X (.Name x px) iter wi)
    (ht : ∀ cl C s₀ H₀ ex, CTests (cxComp X N scope cl C s₀ H₀ ex) ifs tc) (he : ∀ cl C s₀ H₀ ex, PE (cxComp X N scope cl C s₀ H₀ ex) elt te)
    (hsw : swapsWith (.ListComp elt [⟨.Name x px, iter, ifs, 0⟩] scope pos) (some (.Name y py)) spos.line X.env = pure true := by rfl)
    (hs : ∀ x, foldedSetIterable iter X.env x = pure x := by intro _; rfl) :
    PS X (.Assign [.Name y py] (.ListComp elt [⟨.Name x px, iter, ifs, 0⟩] scope pos) spos) (tAsg (tComp wi js tc te) (gName i)) := by
  with_unfolding_all
    intro pins s σ H DD I h
    have hcells : ∀ y ∈ scope.names, y.2 = .free → ∃ c, X.env.cells.lookup y.1 = some c := fun y hy hf => I.ok.has y.1 (.inl (S.free y hy hf))
    obtain ⟨cl, ecl, cl1, cl2⟩ := closure_of hcells
    rw [exec_Assign_Name_used _ _ _ _ hsw]
    refine wpAny_bind (wpAny_standAt (wpAny_bind ?_))
    show wpAny _ X.A (do let _ ← comprehension (.ListComp elt [⟨.Name x px, iter, ifs, 0⟩] scope pos) scope X.env _ (newList []) false (eval iter X.env) (some (assign (.Name y py) X.env))) _ _ s
    refine wpAny_bind (wpAny_mono (wpAny_comprehension_free (use := some (assign (.Name y py) X.env)) (Q := fun _ s' => SP X pins DD .next s') rfl hs ecl S.kind S.loc (thn (hi pins s σ H _ I h) fun v s1 h1 => thn h1 fun itv s2 h2 => ?_)) (fun _ s' hq => wpAny_pure (wpAny_pure hq)) fun _ _ e => e)
    obtain ⟨it, fp, tn, J, H2, e, I2, T, st2, f2, q2⟩ := h2
    subst e
    refine wpAny_newObj_type (wpAny_newFunctionEnv S.nocell (by intro y hy; simp at hy) (fun h₁ hns₁ hsb₁ => ?_) S.kind)
    dsimp only at hns₁ hsb₁ ⊢
    generalize hP2 : s2.heap.push { cls := .type "list", dict := none, data := .seq ([] : List Value).toArray } = P2 at hns₁ hsb₁ ⊢
    have hC : P2.objs.size = s2.heap.objs.size + 1 := by rw [← hP2, Heap.size_push]
    have below : ∀ b, b < s2.heap.objs.size → b ≠ P2.objs.size ∧ b ≠ s2.heap.objs.size := fun b hb => ⟨by rw [hC]; exact Nat.ne_of_lt (Nat.lt_succ_of_lt hb), Nat.ne_of_lt hb⟩
    have hDC : s2.heap.objs.size ≠ P2.objs.size := by rw [hC]; exact Nat.ne_of_lt (Nat.lt_succ_self _)
    have old : ∀ b o, s2.heap.get? b = some o → h₁.get? b = some o := fun b o e => hsb₁.extBut b o (below b (Heap.lt_size e)).1 (Heap.get?_push_of_some _ (hP2 ▸ Heap.get?_push_of_some _ e))
    have hD : h₁.get? s2.heap.objs.size = some { cls := .type "list", dict := none, data := .seq ([] : List Value).toArray } := hsb₁.extBut _ _ hDC (Heap.get?_push_of_some _ (hP2 ▸ Heap.get?_push_size _ rfl))
    have hDn : H2 s2.heap.objs.size = none := I2.hok.fresh (Nat.le_refl _)
    have hCn : H2 P2.objs.size = none := I2.hok.fresh (by rw [hC]; exact Nat.le_succ _)
    obtain ⟨W, ⟨m0, w0⟩, turn⟩ := q2 s2.heap.objs.size _ (same_new hDn (.lst [])) hDn upd_same
    -- the block's context
    have fpl : ∀ b ∈ fp, b < s2.heap.objs.size := fun b hb => by
      obtain ⟨o, e, _⟩ := T.obj 0 _ st2 b hb
      exact Heap.lt_size e
    have yok : (cxComp X N scope cl P2.objs.size s2 H2 fp).Ok :=
      { mod := I2.ok.mod
        kind := S.kind
        glob := I2.ok.glob
        blt := I2.ok.blt
        above := by show s2.heap.objs.size ≤ P2.objs.size; rw [hC]; exact Nat.le_succ _
        inj := fun y z c h1 h2 => I2.ok.inj y z c (cl1 y c h1) (cl1 z c h2)
        has := fun y hy => by
          have hy' : (y, NameKind.free) ∈ scope.names := by
            rcases hy with hy | hy
            · exact relabel_cell (env := X.env) hy (.inl rfl) S.nocell
            · exact relabel_cell (env := X.env) hy (.inr rfl) S.nocell
          exact cl2 y hy'
        cab := fun y c hf _ => by cases hf
        hd := fun hc' => I2.ok.hd hc'
        frames := I2.ok.frames
        stk := .inl rfl
        exf := fun b hb => ⟨(below b (fpl b hb)).1, fun y c e => (f2 b hb).2.2.2.2.1 y c (cl1 y c e)⟩
        bs := I2.bs
        bsz := Nat.le_trans I2.ok.bsz I2.sz
        noex := fun b o e hb => by
          rcases (f2 b hb).2.2.2.1 with z | z
          · exact I2.ok.noex b o e z
          · exact absurd (Nat.lt_of_lt_of_le (Nat.lt_of_lt_of_le (Heap.lt_size e) I2.ok.bsz) z) (Nat.lt_irrefl _)
        exfs := fun b hb hf => by
          rcases List.mem_cons.mp (I2.stkSub b hf) with z | z
          · exact (f2 b hb).2.1 z
          · exact (f2 b hb).2.2.1 z
        funs := I2.stack
        frf := I2.stkFree }
    have hokD : HOk X.prog X.w (upd H2 s2.heap.objs.size (.lst [])) h₁ := I2.hok.laid old (Nat.le_refl _) ⟨Nat.zero_le _, [], 0, .nil, hD⟩
    have I3 : Inv (cxComp X N scope cl P2.objs.size s2 H2 fp) [] (none :: caps σ js) (upd H2 s2.heap.objs.size (.lst [])) { s2 with heap := h₁, toks := s2.toks + ([] : List (Str × Value)).length } :=
      { ok := yok
        os := rfl
        bare := I2.bare
        base := Un.laid old (Nat.le_refl _) hDn
        loc := by
          refine ⟨_, hns₁, fun i y v e1 e2 e3 => ?_⟩
          cases i with
          | zero => simp at e2
          | succ k =>
            have e2' : (caps σ js)[k]? = some (some v) := by simpa using e2
            unfold caps at e2'
            rw [List.getElem?_map] at e2'
            cases ej : js[k]? with
            | none => rw [ej] at e2'; cases e2'
            | some j =>
              rw [ej] at e2'
              have e4 : (σ[j]?).join = some v := Option.some.inj e2'
              have e5 : σ[j]? = some (some v) := by
                cases eσ : σ[j]? with
                | none => rw [eσ] at e4; cases e4
                | some o => rw [eσ] at e4; exact congrArg some e4
              obtain ⟨n1, n2, n3, n4⟩ := S.cap k j y e1 ej
              obtain ⟨mX, _, lX⟩ := I2.loc
              obtain ⟨u, ru, lk⟩ := lX j y v n1 e5 n2
              refine ⟨u, ru, ?_⟩
              rcases lk with ⟨lk, _⟩ | ⟨_, c, ec, cell⟩
              · rw [n3] at lk; cases lk
              · obtain ⟨c', ec'⟩ := cl2 y n4
                have : c' = c := Option.some.inj ((cl1 y c' ec').symm.trans ec)
                subst this
                obtain ⟨o, ho, hd⟩ := cell
                refine .inr ⟨?_, c', ec', ⟨o, old _ _ ho, hd⟩⟩
                -- the name is a cell or free in the block
                have e3' : (relabel scope X.env).names.lookup y = some .local ∨ (relabel scope X.env).names.lookup y = some .cell ∨ (relabel scope X.env).names.lookup y = some .free := e3
                rcases e3' with z | z | z
                · exfalso
                  have hm := PySem.mem_of_lookup z
                  obtain ⟨⟨n, k'⟩, hn, e⟩ := List.mem_map.mp hm
                  dsimp only at e
                  by_cases cc : (k' == NameKind.free && X.env.scope.kind == .function && X.env.kindOf n == some .cell) = true
                  · rw [if_pos cc] at e
                    cases e
                  · rw [if_neg cc] at e
                    cases e
                    have l1 := S.loc _ hn rfl
                    have l2 := lookup_relabel_local (env := X.env) l1
                    have f1 := S.free _ n4 rfl
                    exact S.apart y l1 n4
                · exact .inl z
                · exact .inr z
        cell := fun y c e => by
          obtain ⟨v, o, ho, hd⟩ := I2.cell y c (cl1 y c e)
          exact ⟨v, o, old _ _ ho, hd⟩
        free := by show upd H2 s2.heap.objs.size (.lst []) P2.objs.size = none; rw [upd_ne (Ne.symm hDC)]; exact hCn
        freeC := fun y c e => by
          obtain ⟨v, o, ho, hd⟩ := I2.cell y c (cl1 y c e)
          rw [upd_ne (below c (Heap.lt_size ho)).2]
          exact I2.freeC y c (cl1 y c e)
        pin := fun p hp => by simp at hp
        hok := hokD
        len := by show (none :: caps σ js).length = N.length; rw [S.len]; simp [caps] }
    have st3 : tn 0 h₁ := T.keep 0 _ _ st2 fun b _ o e => old b o e
    have fr3 : ∀ b ∈ fp, (upd H2 s2.heap.objs.size (.lst [])) b = none := fun b hb => by
      rw [upd_ne (below b (fpl b hb)).2]
      exact (f2 b hb).1
    -- what stays true of the iterator's objects
    have stat : ∀ {H' : Hp}, (∀ b ∈ fp, H' b = none) → ∀ b ∈ fp, FpOk (cxComp X N scope cl P2.objs.size s2 H2 fp) [] H' b := fun hn b hb =>
      ⟨hn b hb, (below b (fpl b hb)).1, yok.exfs b hb, .inl hb, fun y c e => (f2 b hb).2.2.2.2.1 y c (cl1 y c e), fun p hp => by simp at hp⟩
    have pgn : PG (cxComp X N scope cl P2.objs.size s2 H2 fp) (.Name x px) (gName 0) := pg_name S.nd S.head (.inl (lookup_relabel_local S.own)) (.inr (lookup_relabel_local S.own))
    have loop : ∀ s₃ : Shared, s₃ = { s2 with heap := h₁, toks := s2.toks + ([] : List (Str × Value)).length } →
        codeAny (model X.prog X.w) X.A (.compLoop (.ListComp elt [⟨.Name x px, iter, ifs, 0⟩] scope pos) 0 (.ref it) (.ref s2.heap.objs.size) (compEnvC scope cl P2.objs.size X.env))
          (compPost (model X.prog X.w) X.A X.xe (some (assign (.Name y py) X.env)) (fun _ s' => SP X pins DD .next s') (.ref s2.heap.objs.size) P2.objs.size) s₃ := by
      rintro s₃ rfl
      refine codeAny_loop rfl (fun n s' => ∃ i o acc H', Inv (cxComp X N scope cl P2.objs.size s2 H2 fp) [] (o :: caps σ js) H' s' ∧ tn i s'.heap ∧ (∀ b ∈ fp, H' b = none) ∧ W i n acc H') ?_ m0 ⟨0, none, [], _, I3, st3, fr3, w0⟩
      rintro n s4 ⟨i, o, acc, H4, I4, st4, fr4, w4⟩
      show wpAny _ X.A ((compTurn (.ListComp elt [⟨.Name x px, iter, ifs, 0⟩] scope pos) 0 (.ref it) (.ref s2.heap.objs.size) (compEnvC scope cl P2.objs.size X.env)).onRaise (fun x => do noteFrame x (compEnvC scope cl P2.objs.size X.env); theTreesLotGoes x)) _ _ s4
      refine wpAny_noted ?_
      rw [compTurn_list]
      refine wpAny_bind (wpAny_standAt (wpAny_bind ?_))
      obtain ⟨hD4, hz4, alt⟩ := turn i n acc H4 w4
      rcases alt with ⟨stop, qn⟩ | ⟨go, step⟩
      · refine thn (T.done (cxComp X N scope cl P2.objs.size s2 H2 fp) rfl rfl rfl hc i [] s4 _ H4 _ I4 (stat fr4) st4 stop) fun r s5 ⟨hr, I5⟩ => ?_
        subst hr
        refine wpAny_pure ?_
        obtain ⟨m5, n5, _⟩ := I5.loc
        have u5 := I5.base
        have nC : ∀ b o, s2.heap.get? b = some o → b ≠ P2.objs.size := fun b o e => (below b (Heap.lt_size e)).1
        have IX : Inv X pins σ H4 s5 := by
          refine I2.call' (s' := s5) (ch := fp) I5.os ?_ I5.hok I5.bare fun b hb => ⟨(f2 b hb).2.2.2.1, (f2 b hb).2.1, (f2 b hb).2.2.2.2.1, (f2 b hb).2.2.2.2.2⟩
          exact ⟨u5.keep, u5.slot, u5.free, u5.there, u5.tups, u5.frzs, u5.tbls⟩
        obtain ⟨g0, g1, g2, g3, g4, g5⟩ := I2.fpOk (b := P2.objs.size) (H' := H4) (by rw [hC]; exact Nat.le_succ _) I5.free
        refine wpAny_assign_Name (store_ok2 IX hN hiN (.inl hyl) (v := .ref s2.heap.objs.size) rfl (fun s6 I6 ⟨aa, sb6, ha⟩ => ?_) (.inr hyl))
        have hCa : P2.objs.size ≠ aa := by
          rcases ha with rfl | ha
          · exact g1
          · exact fun z => g4 _ _ ha z.symm
        refine ⟨m5, n5.sameBut sb6 hCa, fun h' sb => ⟨_, H4, ?_, qn⟩⟩
        exact I6.turned (t' := s6.toks) (fun b o hb e => sb.extBut b o hb e) g0 g1 g3 g4 g5
      · refine thn (T.item (cxComp X N scope cl P2.objs.size s2 H2 fp) rfl rfl rfl hc i [] s4 _ H4 _ I4 (stat fr4) st4 go) fun r s5 ⟨u, hr, h5⟩ => ?_
        subst hr
        refine wpAny_bind (thn h5 fun _ s6 ⟨y, H6, I6, r6, y6, st6, fr6⟩ => ?_)
        have I6' := I6.pinned (stat fr6) (T.obj _ _ st6)
        refine wpAny_bind (wpAny_mono (pgn _ s6 (o :: caps σ js) H6 y u (fun σ' H' => σ' = some y :: caps σ js ∧ H' = H6) I6' r6 ⟨rfl, rfl⟩) (fun _ s7 ⟨σ7, H7, I7, e7, e8⟩ => ?_) fun _ _ z => z.elim)
        subst e7 e8
        have back : ∀ {s9 : Shared} {H9 : Hp} {acc9 : List V} {m9 : Nat}, Inv (cxComp X N scope cl P2.objs.size s2 H2 fp) ([] ++ pinsAt fp s6.heap) (some y :: caps σ js) H9 s9 → m9 < n → W (i + 1) m9 acc9 H9 →
            ∃ m, m < n ∧ ∃ i o acc H', Inv (cxComp X N scope cl P2.objs.size s2 H2 fp) [] (o :: caps σ js) H' s9 ∧ tn i s9.heap ∧ (∀ b ∈ fp, H' b = none) ∧ W i m acc H' := fun {s9 H9 acc9 m9} I9 hm w9 => by
          refine ⟨m9, hm, i + 1, some y, acc9, H9, I9.unpinned, T.keep _ _ _ st6 fun b hb o e => (I9.pin (b, o) (List.mem_append_right _ (List.mem_append_right _ (mem_pinsAt hb e)))).1, fun b hb => ?_, w9⟩
          obtain ⟨o, e, d⟩ := T.obj _ _ st6 b hb
          exact (I9.pin (b, o) (List.mem_append_right _ (List.mem_append_right _ (mem_pinsAt hb e)))).2.1
        refine wpAny_bind (wpAny_mono (ht cl _ s2 H2 fp _ s7 _ _ _ I7 (step y _ y6)) (fun ok s8 ⟨H8, I8, q8⟩ => ?_) fun _ _ z => z.elim)
        cases ok with
        | false =>
          obtain ⟨m9, hm, w9⟩ := q8
          exact wpAny_pure ⟨rfl, back I8 hm w9⟩
        | true =>
          refine wpAny_bind (wpAny_bind (wpAny_mono (he cl _ s2 H2 fp _ s8 _ _ _ I8 q8) (fun xv s9 ⟨v9, H9, I9, r9, hD9, q9⟩ => ?_) fun _ _ z => z.elim))
          refine wpAny_bind (wpAny_mono (mt_append (X := cxComp X N scope cl P2.objs.size s2 H2 fp) _ s9 _ H9 (.ref s2.heap.objs.size) [v9] (.ref s2.heap.objs.size) [xv] (fun _ H' => H' = upd H9 s2.heap.objs.size (.lst (acc ++ [v9]))) I9 rfl (.cons r9 .nil) ⟨_, acc, v9, rfl, rfl, hD9, hz4, rfl⟩) (fun _ s10 ⟨v10, H10, I10, _, e10⟩ => ?_) fun _ _ z => z.elim)
          subst e10
          obtain ⟨m9, hm, w9⟩ := q9 _ (fun b o hb e => by rw [upd_ne hb]; exact e) upd_same
          exact wpAny_pure (wpAny_pure ⟨rfl, back I10 hm w9⟩)
    exact codeAny_compStart_list (loop _ rfl) (T.self _ 0 _ _ _ st3 (loop _ rfl))
end L2

set_option Elab.async false
set_option linter.all false
set_option maxRecDepth 100000
namespace L2
open PySem PySem.Spec PyProof.Rows
section
variable {X : Cx}
end
end L2

set_option Elab.async false
set_option linter.all false
namespace L2
open PySem.W PyProof.Rows
/-! ## the sort of few items, by what it asks: a strict order of unlike items -/
structure Tot (n : Nat) (lt : Nat → Nat → Bool) : Prop where
  asym : ∀ i j, i < n → j < n → lt i j = true → lt j i = false
  tot : ∀ i j, i < n → j < n → i ≠ j → lt i j = false → lt j i = true
  trans : ∀ i j k, i < n → j < n → k < n → lt i j = true → lt j k = true → lt i k = true
def Asks {α : Type} (n : Nat) (lt : Nat → Nat → Bool) : KasT α → (α → Prop) → Prop
  | .ret a, Q => Q a
  | .ask i j k, Q => i < n ∧ j < n ∧ i ≠ j ∧ Asks n lt (k (lt i j)) Q
theorem Asks.bind {α β : Type} {n : Nat} {lt : Nat → Nat → Bool} {f : α → KasT β} {R : α → Prop} {Q : β → Prop} (hf : ∀ a, R a → Asks n lt (f a) Q) : ∀ (t : KasT α), Asks n lt t R → Asks n lt (t.bind f) Q
  | .ret a, h => hf a h
  | .ask i j k, ⟨h1, h2, h3, h4⟩ => ⟨h1, h2, h3, Asks.bind hf (k (lt i j)) h4⟩
theorem Asks.mono {α : Type} {n : Nat} {lt : Nat → Nat → Bool} {R Q : α → Prop} (hf : ∀ a, R a → Q a) : ∀ (t : KasT α), Asks n lt t R → Asks n lt t Q
  | .ret a, h => hf a h
  | .ask i j k, ⟨h1, h2, h3, h4⟩ => ⟨h1, h2, h3, Asks.mono hf (k (lt i j)) h4⟩
structure Pm (n : Nat) (p : Array Nat) : Prop where
  pm : p.toList.Perm (List.range n)
theorem Pm.sz {n : Nat} {p : Array Nat} (h : Pm n p) : p.size = n := by
  have := h.pm.length_eq
  simpa using this
theorem atq (p : Array Nat) (i : Nat) : p.getD i 0 = (p[i]?).getD 0 := by
  rw [Array.getD_eq_getD_getElem?]
theorem Pm.lt {n : Nat} {p : Array Nat} (h : Pm n p) {i : Nat} (hi : i < n) : p.getD i 0 < n := by
  have hs : i < p.size := by rw [h.sz]; exact hi
  have m : p.getD i 0 ∈ p.toList := by
    rw [atq, Array.getElem?_eq_getElem hs]
    simp
  exact List.mem_range.mp (h.pm.mem_iff.mp m)
theorem Pm.inj {n : Nat} {p : Array Nat} (h : Pm n p) {i j : Nat} (hi : i < n) (hj : j < n) (e : p.getD i 0 = p.getD j 0) : i = j := by
  have hs : i < p.size := by rw [h.sz]; exact hi
  have ht : j < p.size := by rw [h.sz]; exact hj
  have nd : p.toList.Nodup := h.pm.nodup_iff.mpr List.nodup_range
  rw [atq, atq, Array.getElem?_eq_getElem hs, Array.getElem?_eq_getElem ht] at e
  have e' : p.toList[i]'(by simpa using hs) = p.toList[j]'(by simpa using ht) := by simpa using e
  exact (List.getElem_inj nd).mp e'
def Sd (lt : Nat → Nat → Bool) (p : Array Nat) (k : Nat) : Prop := ∀ i j, i < j → j < k → lt (p.getD i 0) (p.getD j 0) = true
def Dd (lt : Nat → Nat → Bool) (p : Array Nat) (k : Nat) : Prop := ∀ i j, i < j → j < k → lt (p.getD j 0) (p.getD i 0) = true
section
variable {n : Nat} {lt : Nat → Nat → Bool} (T : Tot n lt)
include T
theorem asc_ok {p : Array Nat} (P : Pm n p) : ∀ f a, 1 ≤ a → a + f ≤ n → Sd lt p a → Asks n lt (kas_asc p f a) (fun m => a ≤ m ∧ m ≤ a + f ∧ Sd lt p m ∧ (m < a + f → lt (p.getD m 0) (p.getD (m - 1) 0) = true))
  | 0, a, h1, h2, s => ⟨Nat.le_refl _, Nat.le_refl _, s, fun z => by omega⟩
  | f + 1, a, h1, h2, s => by
    refine ⟨P.lt (by omega), P.lt (by omega), fun e => ?_, ?_⟩
    · have := P.inj (by omega) (by omega) e
      omega
    · cases c : lt (p.getD a 0) (p.getD (a - 1) 0) with
      | true => exact ⟨Nat.le_refl _, by omega, s, fun _ => c⟩
      | false =>
        have c' := T.tot _ _ (P.lt (i := a) (by omega)) (P.lt (i := a - 1) (by omega)) (fun e => by have := P.inj (by omega) (by omega) e; omega) c
        have s' : Sd lt p (a + 1) := fun i j ij ja => by
          by_cases z : j < a
          · exact s i j ij z
          · have : j = a := by omega
            subst this
            by_cases y : i = j - 1
            · rw [y]; exact c'
            · exact T.trans _ (p.getD (j - 1) 0) _ (P.lt (by omega)) (P.lt (by omega)) (P.lt (by omega)) (s i (j - 1) (by omega) (by omega)) c'
        have r := asc_ok P f (a + 1) (by omega) (by omega) s'
        refine Asks.mono (fun m hm => ?_) _ r
        exact ⟨by omega, by omega, hm.2.2.1, fun z => hm.2.2.2 (by omega)⟩
theorem desc_ok {p : Array Nat} (P : Pm n p) : ∀ f a, 1 ≤ a → a + f ≤ n → Dd lt p a → Asks n lt (kas_desc f p a 0) (fun r => r.1 = p ∧ r.2.2 = 0 ∧ a ≤ r.2.1 ∧ r.2.1 ≤ a + f ∧ Dd lt p r.2.1)
  | 0, a, h1, h2, s => ⟨rfl, rfl, Nat.le_refl _, Nat.le_refl _, s⟩
  | f + 1, a, h1, h2, s => by
    have ne : p.getD a 0 ≠ p.getD (a - 1) 0 := fun e => by have := P.inj (by omega) (by omega) e; omega
    refine ⟨P.lt (by omega), P.lt (by omega), ne, ?_⟩
    cases c : lt (p.getD a 0) (p.getD (a - 1) 0) with
    | true =>
      have s' : Dd lt p (a + 1) := fun i j ij ja => by
        by_cases z : j < a
        · exact s i j ij z
        · have : j = a := by omega
          subst this
          by_cases y : i = j - 1
          · rw [y]; exact c
          · exact T.trans _ (p.getD (j - 1) 0) _ (P.lt (by omega)) (P.lt (by omega)) (P.lt (by omega)) c (s i (j - 1) (by omega) (by omega))
      have r := desc_ok P f (a + 1) (by omega) (by omega) s'
      exact Asks.mono (fun m hm => ⟨hm.1, hm.2.1, by omega, by omega, hm.2.2.2.2⟩) _ r
    | false =>
      have c' := T.tot _ _ (P.lt (i := a) (by omega)) (P.lt (i := a - 1) (by omega)) ne c
      refine ⟨P.lt (by omega), P.lt (by omega), fun e => ne e.symm, ?_⟩
      rw [c']
      exact ⟨rfl, rfl, Nat.le_refl _, show a ≤ a + (f + 1) by omega, s⟩
omit T in
theorem rev_at {p : Array Nat} {k : Nat} (hk : k ≤ p.size) (i : Nat) : (kas_rev p 0 k).getD i 0 = if i < k then p.getD (k - 1 - i) 0 else p.getD i 0 := by
  rw [atq]
  unfold kas_rev
  rw [getElem?_mirror_all hk]
  by_cases z : i < k
  · rw [if_pos ⟨Nat.zero_le _, z⟩, if_pos z, atq, Nat.zero_add]
  · rw [if_neg (fun y => z y.2), if_neg z, atq]
omit T in
theorem Pm.rev {p : Array Nat} (P : Pm n p) (i k : Nat) : Pm n (kas_rev p i k) := ⟨(Array.perm_iff_toList_perm.mp (mirror_perm p i k _)).trans P.pm⟩
omit T in
theorem Pm.bub {p : Array Nat} (P : Pm n p) (i k : Nat) : Pm n (bubble p i k) := ⟨(Array.perm_iff_toList_perm.mp (bubble_perm p i k)).trans P.pm⟩
theorem tail3_ok {p : Array Nat} (P : Pm n p) {k : Nat} (k1 : 1 ≤ k) (kn : k ≤ n) (d : Dd lt p k) : Asks n lt (kas_tail3 k n p) (fun r => 1 ≤ r.1 ∧ r.1 ≤ n ∧ Pm n r.2 ∧ Sd lt r.2 r.1) := by
  have P' := P.rev 0 k
  have s : Sd lt (kas_rev p 0 k) k := fun i j ij jk => by
    rw [rev_at (by rw [P.sz]; exact kn), rev_at (by rw [P.sz]; exact kn), if_pos (by omega), if_pos jk]
    exact d _ _ (by omega) (by omega)
  unfold kas_tail3
  refine Asks.bind (fun m hm => ?_) _ (asc_ok T P' (n - k) k k1 (by omega) s)
  exact (show 1 ≤ m ∧ m ≤ n ∧ Pm n (kas_rev p 0 k) ∧ Sd lt (kas_rev p 0 k) m from ⟨by omega, by omega, P', hm.2.2.1⟩)
theorem descPart_ok {p : Array Nat} (P : Pm n p) (n2 : 2 ≤ n) (c : lt (p.getD 1 0) (p.getD 0 0) = true) : Asks n lt (kas_descPart 1 n p) (fun r => 1 ≤ r.1 ∧ r.1 ≤ n ∧ Pm n r.2 ∧ Sd lt r.2 r.1) := by
  refine Asks.bind (fun r hr => ?_) _ (desc_ok T P (n - 2) 2 (by omega) (by omega) (fun i j ij j2 => ?_))
  · obtain ⟨e1, e2, h1, h2, d⟩ := hr
    rw [if_neg (by omega), e1]
    exact tail3_ok T P (by omega) (by omega) d
  · have : i = 0 := by omega
    have : j = 1 := by omega
    subst i j
    exact c
theorem count_ok {p : Array Nat} (P : Pm n p) (n2 : 2 ≤ n) : Asks n lt (kas_count n p) (fun r => 1 ≤ r.1 ∧ r.1 ≤ n ∧ Pm n r.2 ∧ Sd lt r.2 r.1) := by
  refine Asks.bind (fun m hm => ?_) _ (asc_ok T P (n - 1) 1 (Nat.le_refl _) (by omega) (fun i j ij j1 => by omega))
  obtain ⟨h1, h2, s, c⟩ := hm
  by_cases z : m = n
  · rw [if_pos (by simp [z])]
    exact ⟨h1, by omega, P, s⟩
  · rw [if_neg (by simp [z])]
    have c := c (by omega)
    by_cases y : m > 1
    · rw [if_pos y]
      refine ⟨P.lt (by omega), P.lt (by omega), fun e => ?_, ?_⟩
      · have := P.inj (by omega) (by omega) e
        omega
      · rw [s 0 (m - 1) (by omega) (by omega)]
        exact ⟨h1, by omega, P, s⟩
    · rw [if_neg y]
      have : m = 1 := by omega
      subst this
      exact descPart_ok T P n2 c
theorem place_ok {p : Array Nat} (P : Pm n p) {k : Nat} (kn : k < n) (s : Sd lt p k) : ∀ f l r, l ≤ r → r ≤ k → r - l ≤ f → (∀ i, i < l → lt (p.getD i 0) (p.getD k 0) = true) → (∀ i, r ≤ i → i < k → lt (p.getD k 0) (p.getD i 0) = true) →
    Asks n lt (kas_place p k f l r) (fun m => m ≤ k ∧ (∀ i, i < m → lt (p.getD i 0) (p.getD k 0) = true) ∧ (∀ i, m ≤ i → i < k → lt (p.getD k 0) (p.getD i 0) = true))
  | 0, l, r, lr, rk, f0, a, b => by
    have : l = r := by omega
    subst this
    exact ⟨rk, a, b⟩
  | f + 1, l, r, lr, rk, f0, a, b => by
    unfold kas_place
    by_cases z : l ≥ r
    · rw [if_pos z]
      have : l = r := by omega
      subst this
      exact ⟨rk, a, b⟩
    · rw [if_neg z]
      have m1 : (l + r) / 2 < r := by omega
      have m2 : l ≤ (l + r) / 2 := by omega
      generalize (l + r) / 2 = m at m1 m2
      have ne : p.getD k 0 ≠ p.getD m 0 := fun e => by have := P.inj kn (by omega) e; omega
      refine ⟨P.lt kn, P.lt (by omega), ne, ?_⟩
      cases c : lt (p.getD k 0) (p.getD m 0) with
      | true =>
        refine place_ok P kn s f l m m2 (by omega) (by omega) a fun i mi ik => ?_
        by_cases y : i = m
        · rw [y]; exact c
        · exact T.trans _ (p.getD m 0) _ (P.lt kn) (P.lt (by omega)) (P.lt (by omega)) c (s m i (by omega) ik)
      | false =>
        have c' := T.tot _ _ (P.lt kn) (P.lt (i := m) (by omega)) ne c
        refine place_ok P kn s f (m + 1) r (by omega) rk (by omega) (fun i im => ?_) b
        by_cases y : i = m
        · rw [y]; exact c'
        · exact T.trans _ (p.getD m 0) _ (P.lt (by omega)) (P.lt (by omega)) (P.lt kn) (s i m (by omega) (by omega)) c'
theorem bin_ok : ∀ f (p : Array Nat) (k : Nat), Pm n p → k + f = n → Sd lt p k → Asks n lt (kas_bin f p k) (fun p' => Pm n p' ∧ Sd lt p' n)
  | 0, p, k, P, e, s => ⟨P, by rw [← e]; exact s⟩
  | f + 1, p, k, P, e, s => by
    refine Asks.bind (fun l hl => ?_) _ (place_ok T P (by omega) s k 0 k (by omega) (Nat.le_refl _) (by omega) (fun i z => by omega) (fun i z y => by omega))
    obtain ⟨lk, h1, h2⟩ := hl
    refine bin_ok f _ (k + 1) (P.bub k (k - l)) (by omega) ?_
    have b : ∀ i, (bubble p k (k - l)).getD i 0 = if i = l then p.getD k 0 else if l < i ∧ i ≤ k then p.getD (i - 1) 0 else p.getD i 0 := fun i => by
      rw [atq, getElem?_bubble (by rw [P.sz]; omega) _ (by omega), show k - (k - l) = l by omega]
      by_cases z : i = l
      · rw [if_pos z, if_pos z, atq]
      · rw [if_neg z, if_neg z]
        by_cases y : l < i ∧ i ≤ k
        · rw [if_pos y, if_pos y, atq]
        · rw [if_neg y, if_neg y, atq]
    intro i j ij jk
    rw [b i, b j]
    by_cases z : i = l
    · rw [if_pos z, if_neg (by omega), if_pos ⟨by omega, by omega⟩]
      exact h2 _ (by omega) (by omega)
    · rw [if_neg z]
      by_cases y : j = l
      · rw [if_pos y, if_neg (by omega)]
        exact h1 _ (by omega)
      · rw [if_neg y]
        by_cases x : l < i ∧ i ≤ k
        · rw [if_pos x, if_pos ⟨by omega, by omega⟩]
          exact s _ _ (by omega) (by omega)
        · rw [if_neg x]
          by_cases v : l < j ∧ j ≤ k
          · rw [if_pos v]
            exact s _ _ (by omega) (by omega)
          · rw [if_neg v]
            exact s _ _ ij (by omega)
theorem sort_ok (n2 : 2 ≤ n) : Asks n lt (kas_sort n) (fun p => Pm n p ∧ Sd lt p n) := by
  refine Asks.bind (fun r hr => ?_) _ (count_ok T ⟨by simp⟩ n2)
  obtain ⟨h1, h2, P, s⟩ := hr
  by_cases z : r.1 < n
  · rw [if_pos z, Nat.max_eq_left h1]
    exact bin_ok T _ _ _ P (by omega) s
  · rw [if_neg z]
    have : r.1 = n := by omega
    rw [this] at s
    exact ⟨P, s⟩
end
end L2

set_option Elab.async false
set_option linter.all false
set_option maxRecDepth 100000
set_option maxHeartbeats 4000000
namespace L2
open PySem PySem.Spec PyProof.Rows
/-! ## a lambda that is made in a def's body: its table, its object, its call -/
structure Site (K : PySem.W.Frag) (mg : Str → Option Value) (base : Heap) (cv : Value) (T : Addr) : Prop where
  ex : ∃ c, cv = .ref c ∧ PySem.W.CodeHd base c T
  bm : base.BuiltinsAt mg T
structure Lam (X : Cx) (H : Hp) (q : Str) (ar : Arguments) (body : Expr) (scope : Scope) (f : Addr) (cl : List (Str × Addr)) : Prop where
  ex : ∃ pm c ct oc us t o, H f = some (.frz o (.own f)) ∧ o.data = .func (PySem.W.kla_fn "<lambda>" q ar body scope cl pm (.ref c) ct) ∧ H c = some (.frz oc (.own c)) ∧ oc.data = .fields us ∧ us[1]? = some (.str q t)
  c1 : ∀ x c, cl.lookup x = some c → X.env.cells.lookup x = some c
  c2 : ∀ x, (x, NameKind.free) ∈ scope.names → ∃ c, cl.lookup x = some c
  c3 : ∀ x c, cl.lookup x = some c → (x, NameKind.free) ∈ scope.names
theorem Lam.same {X : Cx} {H H' : Hp} {q : Str} {ar : Arguments} {body : Expr} {scope : Scope} {f : Addr} {cl : List (Str × Addr)} (s : Same H H') (h : Lam X H q ar body scope f cl) : Lam X H' q ar body scope f cl := by
  obtain ⟨pm, c, ct, oc, us, t, o, e1, e2, e3, e4⟩ := h.ex
  exact ⟨⟨pm, c, ct, oc, us, t, o, s _ _ e1, e2, s _ _ e3, e4⟩, h.c1, h.c2, h.c3⟩
section
variable {X : Cx} {pins : List (Addr × Obj)} {σ : St} {H : Hp} {s : Shared}
theorem lam_make {ar : Arguments} {body : Expr} {scope : Scope} {lp : Pos} {q : Str} {x : Str} {N : List Str} {js : List Nat} {T : Addr} {Q : Value → Shared → Prop}
    (I : Inv X pins σ H s) (S : CompScope X scope x N js) (D : Site X.K X.mg X.base X.env.code T) (hT : H T = some (.tbl lp q)) (hq : X.env.qual ++ "<lambda>" = q) (hd : defaultsOf ar X.env = ([], []))
    (h : ∀ f cl s' H', Inv X pins σ H' s' → Same H H' → Lam X H' q ar body scope f cl → Q (.ref f) s') : wpAny (model X.prog X.w) X.A (eval (.Lambda ar body scope lp) X.env) Q X.xe s := by
  have hcells : ∀ y ∈ scope.names, y.2 = .free → ∃ c, X.env.cells.lookup y.1 = some c := fun y hy hf => I.ok.has y.1 (.inl (S.free y hy hf))
  obtain ⟨cl, ecl, cl1, cl2, cl3⟩ := closure_of3 hcells
  obtain ⟨c, hc, C⟩ := D.ex
  have B := D.bm.keeps I.bk
  have C' := C.keeps I.bk
  obtain ⟨vs, eT, tr, alt⟩ := I.hok T _ hT
  have hg : s.heap.Ns mainGlobals X.mg := I.mod.glob.keeps I.bk
  refine PySem.W.kla_eval hd ?_
  rw [hq]
  have old : ∀ b o, s.heap.get? b = some o → b < s.heap.objs.size := fun b o e => Heap.lt_size e
  have trk : ∀ b u, H b = some u → b < s.heap.objs.size := fun b u e => I.hok.lt e
  rcases alt with alt | ⟨c', oc, us, t, e1, e2, e3, e4⟩
  · have hgT : mainGlobals ≠ T := fun z => by
      obtain ⟨o, es, ep, e, d, _⟩ := id hg
      rw [z, eT] at e
      cases e
      cases d
    refine PySem.W.kla_makeFunction (mg := X.mg) ecl I.ok.glob hg hc C' eT tr alt hgT B fun c' ctv h' tk hx hge hlt hrec htb => ?_
    obtain ⟨c2, oc, us, t, ec, hoc, hd1, hd2⟩ := hrec
    cases ec
    generalize hfo : PySem.W.kla_obj "<lambda>" q ar body scope cl ((X.mg "__name__").getD .none) c' ctv = fo
    have fd : fo.data = .func (PySem.W.kla_fn "<lambda>" q ar body scope cl ((X.mg "__name__").getD .none) (.ref c') ctv) := by rw [← hfo]
    have ff : fo.isFreed = false := by rw [← hfo]; rfl
    have nT : ∀ b, H b = none → b ≠ T := fun b n z => by rw [z, hT] at n; cases n
    have hf : h'.objs.size ≠ c' := Nat.ne_of_gt hlt
    have nf : ∀ b, b < s.heap.objs.size → b ≠ h'.objs.size := fun b hb => Nat.ne_of_lt (Nat.lt_trans (Nat.lt_of_lt_of_le hb hge) hlt)
    have nc : ∀ b, b < s.heap.objs.size → b ≠ c' := fun b hb => Nat.ne_of_lt (Nat.lt_of_lt_of_le hb hge)
    have kp : ∀ b o, b ≠ T → s.heap.get? b = some o → (h'.push fo).get? b = some o := fun b o n e => Heap.get?_push_of_some _ (hx b o n e)
    have sm : Same H (upd (upd H c' (.frz oc (.own c'))) h'.objs.size (.frz fo (.own h'.objs.size))) := fun b u e => by
      rw [upd_ne (nf b (trk b u e)), upd_ne (nc b (trk b u e))]
      exact e
    have hcF : (upd (upd H c' (.frz oc (.own c'))) h'.objs.size (.frz fo (.own h'.objs.size))) c' = some (.frz oc (.own c')) := by
      rw [upd_ne (Ne.symm hf), upd_same]
    refine h h'.objs.size cl _ _ (I.step (g' := s.gens) (d' := s.drawn) (ch := []) (h' := h'.push fo) (t' := tk) (H' := upd (upd H c' (.frz oc (.own c'))) h'.objs.size (.frz fo (.own h'.objs.size))) (fun _ z => nomatch z) (fun b o _ _ _ e n => kp b o (nT b n) e) (fun b o _ _ _ e n => ⟨o.slots, kp b o (nT b n) e⟩)
      (fun b o _ e n => ?_) (fun b o _ e => ?_) (fun b xs e => sm b _ e) (fun b o u e => sm b _ e) (fun b p r e => sm b _ e) (fun m hm => ?_) (fun b u e => ?_) I.bare) sm ⟨⟨_, c', ctv, oc, us, t, fo, upd_same, fd, hcF, hd1, hd2⟩, cl1, cl2, cl3⟩
    · rw [upd_ne (nf b (old b o e)), upd_ne (nc b (old b o e))]
      exact n
    · by_cases z : b = T
      · exact ⟨_, by rw [z]; exact Heap.get?_push_of_some _ htb⟩
      · exact ⟨o, kp b o z e⟩
    · exact (hm.extBut hx (nT _ I.free)).push _
    · by_cases z : b = h'.objs.size
      · subst z
        rw [upd_same] at e
        cases e
        exact ⟨Heap.get?_push_size _ ff, _, Heap.get?_push_size _ ff⟩
      · rw [upd_ne z] at e
        by_cases y : b = c'
        · subst y
          rw [upd_same] at e
          cases e
          exact ⟨Heap.get?_push_of_some _ hoc, _, Heap.get?_push_of_some _ hoc⟩
        · rw [upd_ne y] at e
          by_cases w : b = T
          · subst w
            rw [hT] at e
            cases e
            refine ⟨_, Heap.get?_push_of_some _ htb, ?_, .inr ⟨c', oc, us, t, ?_, hcF, hd1, hd2⟩⟩
            · rw [Array.toList_append]
              exact TriplesOk_snoc _ _ _ _ tr
            · rw [Array.toList_append]
              exact codeAmong_snoc _ tr alt
          · refine (I.hok b u e).stay (fun d v hd q => kp d v ?_ q) (fun d q => sm d _ q) (fun d xs q => sm d _ q) fun d ob xs q => sm d _ q
            rintro rfl
            rcases hd with z | z
            · exact w z.symm
            · rw [hT] at z; cases z
  · refine PySem.W.kla_makeFunctionHit (mg := X.mg) ecl I.ok.glob hg hc C' eT tr e1 B fun ctv h' tk hk hsz => ?_
    generalize hfo : ({ cls := .type "function", data := .func (PySem.W.kla_fn "<lambda>" q ar body scope cl ((X.mg "__name__").getD .none) (.ref c') ctv) } : Obj) = fo
    have fd : fo.data = .func (PySem.W.kla_fn "<lambda>" q ar body scope cl ((X.mg "__name__").getD .none) (.ref c') ctv) := by rw [← hfo]
    have hn : H h'.objs.size = none := I.hok.fresh hsz
    have ff : fo.isFreed = false := by rw [← hfo]; rfl
    refine h h'.objs.size cl _ _ (I.laid (a := h'.objs.size) (o := .frz fo (.own h'.objs.size)) (h' := h'.push fo) (t' := tk) (fun b u e => Heap.get?_push_of_some _ (hk b u e)) hsz ⟨Heap.get?_push_size _ ff, _, Heap.get?_push_size _ ff⟩) (same_new hn _) ⟨⟨_, c', ctv, oc, us, t, fo, upd_same, fd, ?_, e3, e4⟩, cl1, cl2, cl3⟩
    rw [upd_ne (ne_of_none e2 hn)]
    exact e2
abbrev cxLam (X : Cx) (N : List Str) (scope : Scope) (cl : List (Str × Addr)) (q : Str) (f : Addr) (cd : Value) (A : Around) (s₀ : Shared) (H₀ : Hp) : Cx where
  prog := X.prog
  w := X.w
  K := X.K
  mg := X.mg
  base := X.base
  A := A.deeper (newEnv scope s₀.heap.objs.size mainGlobals cl (q ++ ".<locals>.") (some f) cd none builtinsNs)
  N := N
  s₀ := s₀
  H₀ := H₀
  env := newEnv scope s₀.heap.objs.size mainGlobals cl (q ++ ".<locals>.") (some f) cd none builtinsNs
  outer := X.stack
  stack := newEnv scope s₀.heap.objs.size mainGlobals cl (q ++ ".<locals>.") (some f) cd none builtinsNs :: X.stack
  ex := []
  fn := fun _ => false
  calm := true
  pn := []
  xe := fun _ _ => False
theorem lam_run {ar : Arguments} {body : Expr} {scope : Scope} {q : Str} {x : Str} {N : List Str} {js : List Nat} {f : Addr} {cl : List (Str × Addr)} {te : TE} {A : Around} {v : V} {u : Value} {Q : VK}
    (I : Inv X pins σ H s) (S : CompScope X scope x N js) (L : Lam X H q ar body scope f cl) (hA : A.frames = some X.stack) (hh : A.handled = none) (hdp : A.depth < recursionLimit) (co : scope.isCoroutine = false) (ge : scope.isGenerator = false)
    (hb : ∀ pm c ct u, bindArgs (PySem.W.kla_fn "<lambda>" q ar body scope cl pm c ct) ⟨[u], []⟩ = pure [(x, u)])
    (he : ∀ cd, PE (cxLam X N scope cl q f cd A s H) body te) (rv : RelV v u) (hq : te (some v :: caps σ js) H Q) : wpAny (model X.prog X.w) A (call (.ref f) [u]) (EP X pins σ Q) (fun _ _ => False) s := by
  with_unfolding_all
    obtain ⟨pm, c, ct, oc, us, t, o, e1, e2, e3, e4, e5⟩ := L.ex
    obtain ⟨g1, _⟩ := I.hok f _ e1
    obtain ⟨g2, _⟩ := I.hok c _ e3
    have lim : s.heap.NoLimit := I.nolimit
    refine wpAny_call (codeAny_mono (R := fun r s' => ∃ k, r = .ok (.ret k) ∧ CE X.stack X.prog X.w H s Q k s') ?_ fun r s' hr => ?_)
    · refine PySem.W.kla_callFunE hdp g1 e2 co ge rfl ⟨c, oc, us, t, rfl, g2, e4, e5⟩ ?_
      rw [hb]
      refine wpAny_pure (wpAny_newFunctionEnv S.nocell (fun y hy => ?_) (fun h₁ hns hsb => ?_) S.kind)
      · have hy' : y = (x, u) := by simpa using hy
        subst hy'
        exact S.own
      have old : ∀ b o, s.heap.get? b = some o → h₁.get? b = some o := fun b o e => hsb.extBut b o (Nat.ne_of_lt (Heap.lt_size e)) (Heap.get?_push_of_some _ e)
      refine ⟨lim.keeps old, ?_⟩
      have yok : (cxLam X N scope cl q f (.ref c) A s H).Ok :=
        { mod := I.ok.mod
          kind := S.kind
          glob := rfl
          blt := rfl
          above := Nat.le_refl _
          inj := fun y z c h1 h2 => I.ok.inj y z c (L.c1 y c h1) (L.c1 z c h2)
          has := fun y hy => by
            rcases hy with hy | hy
            · exact absurd rfl (S.nocell _ (PySem.mem_of_lookup hy))
            · exact L.c2 y (PySem.mem_of_lookup hy)
          cab := fun y c hf _ => by cases hf
          hd := fun _ => hh
          frames := Around.frames_deeper hA
          stk := .inr ⟨rfl, rfl⟩
          exf := fun b hb => by simp at hb
          bs := I.bs
          bsz := Nat.le_trans I.ok.bsz I.sz
          noex := fun b o e hb => by simp at hb
          exfs := fun b hb => by simp at hb
          funs := I.stack
          frf := I.stkFree }
      have I1 : Inv (cxLam X N scope cl q f (.ref c) A s H) [] (some v :: caps σ js) H { s with heap := h₁, toks := s.toks + [(x, u)].length } :=
        { ok := yok
          os := rfl
          bare := I.bare
          base := Un.kept old
          loc := by
            refine ⟨_, hns, fun i y v' h1 h2 h3 => ?_⟩
            cases i with
            | zero =>
              have ey : y = x := Option.some.inj (h1.symm.trans S.head)
              subst ey
              have ev : v' = v := by simpa using h2.symm
              subst ev
              exact ⟨u, rv, .inl ⟨S.own, by simp⟩⟩
            | succ k =>
              have h2' : (caps σ js)[k]? = some (some v') := by simpa using h2
              unfold caps at h2'
              rw [List.getElem?_map] at h2'
              cases ej : js[k]? with
              | none => rw [ej] at h2'; cases h2'
              | some j =>
                rw [ej] at h2'
                have e6 : (σ[j]?).join = some v' := Option.some.inj h2'
                have e7 : σ[j]? = some (some v') := by
                  cases eσ : σ[j]? with
                  | none => rw [eσ] at e6; cases e6
                  | some o => rw [eσ] at e6; exact congrArg some e6
                obtain ⟨n1, n2, n3, n4⟩ := S.cap k j y h1 ej
                obtain ⟨mX, _, lX⟩ := I.loc
                obtain ⟨u', ru, lk⟩ := lX j y v' n1 e7 n2
                refine ⟨u', ru, ?_⟩
                rcases lk with ⟨lk, _⟩ | ⟨_, d, ed, cell⟩
                · rw [n3] at lk; cases lk
                · obtain ⟨d', ed'⟩ := L.c2 y n4
                  have : d' = d := Option.some.inj ((L.c1 y d' ed').symm.trans ed)
                  subst this
                  obtain ⟨ob, ho, hd⟩ := cell
                  refine .inr ⟨?_, d', ed', ⟨ob, old _ _ ho, hd⟩⟩
                  have h3' : scope.names.lookup y = some .local ∨ scope.names.lookup y = some .cell ∨ scope.names.lookup y = some .free := h3
                  rcases h3' with z | z | z
                  · exact absurd n4 (S.apart y z)
                  · exact .inl z
                  · exact .inr z
          cell := fun y d e => by
            obtain ⟨v', ob, ho, hd⟩ := I.cell y d (L.c1 y d e)
            exact ⟨v', ob, old _ _ ho, hd⟩
          free := I.hok.fresh (Nat.le_refl _)
          freeC := fun y d e => I.freeC y d (L.c1 y d e)
          pin := fun p hp => by simp at hp
          hok := I.hok.kept old
          len := by show (some v :: caps σ js).length = N.length; rw [S.len]; simp [caps] }
      refine PySem.W.kla_codeExpr (wpAny_mono (he (.ref c) [] _ _ H Q I1 hq) (fun k s' hk => ?_) fun _ _ z => z.elim)
      obtain ⟨w, H', J, rk, qk⟩ := hk
      exact ⟨k, rfl, w, H', J.os, J.bare, J.base, J.hok, rk, qk⟩
    · obtain ⟨k, rfl, ce⟩ := hr
      exact I.after ce
end
end L2

set_option Elab.async false
set_option linter.all false
set_option maxRecDepth 100000
set_option maxHeartbeats 4000000
namespace L2
open PySem PySem.Spec PyProof.Rows PySem.W
theorem bt_sorted : bootBuiltins "sorted" = some (.builtin "sorted") := by decide +kernel
/-! ## sorted, by tuples of ints that are all unlike -/
theorem Asks.wp {α : Type} {n : Nat} {lt : Nat → Nat → Bool} {cmp : Nat → Nat → (Bool → Shared → Prop) → Shared → Prop} {R : α → Prop} {Q : α → Shared → Prop} {s : Shared}
    (hc : ∀ i j C, i < n → j < n → C (lt i j) s → cmp i j C s) (hq : ∀ a, R a → Q a s) : ∀ (t : KasT α), Asks n lt t R → t.kasWp cmp Q s
  | .ret a, h => hq a h
  | .ask i j k, ⟨h1, h2, _, h4⟩ => hc i j _ h1 h2 (Asks.wp hc hq (k (lt i j)) h4)
section
variable {prog : Program} {w : World} {A : Around} {E : Value → Shared → Prop} {s : Shared} {Q : Bool → Shared → Prop}
theorem lex_asks : ∀ (ns ms : List Int) (xs ys : List Value) (i : Nat), ns.length = ms.length → Vals (ns.map V.int) xs → Vals (ms.map V.int) ys → Q (HT.lexLt ns ms) s → KatLex prog w A true false Q (xs.zip ys) i s
  | [], [], xs, ys, i, _, rx, ry, h => by
    cases rx
    cases ry
    exact kat_nil h
  | [], _ :: _, _, _, _, hl, _, _, _ => by simp at hl
  | _ :: _, [], _, _, _, hl, _, _, _ => by simp at hl
  | a :: ns, b :: ms, xs, ys, i, hl, rx, ry, h => by
    cases rx with
    | cons ra rx =>
      cases ry with
      | cons rb ry =>
        obtain ⟨t, rfl⟩ := ra
        obtain ⟨t', rfl⟩ := rb
        rw [HT.lexLt_cons] at h
        refine kat_cons (wpAny_eqBool_int (kat_go (fun e => ?_) fun e => ?_))
        · have ab : a = b := by simpa using e
          rw [if_pos ab] at h
          exact kat_yes (lex_asks ns ms _ _ (i + 1) (by simpa using hl) rx ry h)
        · have ab : a ≠ b := by simpa using e
          rw [if_neg ab] at h
          refine kat_no ?_
          cases i with
          | zero => exact oneLt_int h
          | succ i =>
            have e0 : (true && (i + 1) == 0) = false := by simp
            rw [e0]
            exact kat_one _ _ (lt_int h)
end
def KeysIn (H : Hp) (kf : Nat → List Int) (ks : List Value) : Prop := ∀ j, j < ks.length → ∃ p, ks[j]? = some (.ref p) ∧ H p = some (.tup ((kf j).map V.int))
section
variable {X : Cx} {pins : List (Addr × Obj)} {σ : St} {H : Hp} {s : Shared}
theorem keys_first (I : Inv X pins σ H s) {kf : Nat → List Int} (k1 : ∀ i, 0 < (kf i).length) : ∀ {ks : List Value} {m : Nat}, (∀ j, j < ks.length → ∃ p, ks[j]? = some (.ref p) ∧ H p = some (.tup ((kf (m + j)).map V.int))) →
    ∃ fs : List Value, fs.length = ks.length ∧ KatTups s.heap ks fs ∧ ∀ v ∈ fs, ∃ i t, v = .int i t
  | [], m, _ => ⟨[], rfl, KatTups.nil, fun v hv => by simp at hv⟩
  | v :: ks, m, h => by
    obtain ⟨p, h1, h2⟩ := h 0 (by simp)
    have ev : v = .ref p := by simpa using h1
    subst ev
    obtain ⟨fs, l1, l2, l3⟩ := keys_first I k1 (ks := ks) (m := m + 1) fun j hj => by
      obtain ⟨p, h1, h2⟩ := h (j + 1) (by simpa using hj)
      refine ⟨p, by simpa using h1, ?_⟩
      rw [Nat.add_assoc, Nat.add_comm 1 j]
      exact h2
    obtain ⟨_, its, r, o, e, c1, c2⟩ := I.hok p _ h2
    rw [Nat.add_zero] at r
    cases ek : kf m with
    | nil =>
      have := k1 m
      rw [ek] at this
      simp at this
    | cons a as =>
      rw [ek] at r
      cases r with
      | cons ra rest =>
        obtain ⟨t, rfl⟩ := ra
        obtain ⟨n, c2⟩ := c2
        refine ⟨.int a t :: fs, by simp [l1], KatTups.cons e c1 c2 (by simp) l2, fun v hv => ?_⟩
        rcases List.mem_cons.mp hv with z | z
        · exact ⟨a, t, z⟩
        · exact l3 v z
theorem keys_kind (I : Inv X pins σ H s) {A : Around} {E : Value → Shared → Prop} {kf : Nat → List Int} (k1 : ∀ i, 0 < (kf i).length) {ks : List Value} (h : KeysIn H kf ks) (h2 : 2 ≤ ks.length) {Q : SortKind → Shared → Prop} (q : Q (tuples' true) s) :
    wpAny (model X.prog X.w) A (keyKind' ks.toArray) Q E s := by
  obtain ⟨fs, l1, l2, l3⟩ := keys_first I k1 (ks := ks) (m := 0) (fun j hj => by rw [Nat.zero_add]; exact h j hj)
  refine kat_kind (T := .type "int") l2 (by omega) (fun v hv => ?_) (by decide) q
  obtain ⟨i, t, rfl⟩ := l3 v hv
  exact Looks.of_pure rfl
theorem keys_ask (I : Inv X pins σ H s) {A : Around} {kf : Nat → List Int} {m : Nat} (k1 : ∀ i, (kf i).length = m) {ks : List Value} (h : KeysIn H kf ks) {i j : Nat} (hi : i < ks.length) (hj : j < ks.length) {C : Bool → Shared → Prop} (q : C (HT.lexLt (kf i) (kf j)) s) :
    kas_ask X.prog X.w A (tuples' true) ks i j C s := by
  obtain ⟨p, e1, e2⟩ := h i hi
  obtain ⟨p', e1', e2'⟩ := h j hj
  obtain ⟨_, its, r, o, g, c1, n, c2⟩ := I.hok p _ e2
  obtain ⟨_, its', r', o', g', c1', n', c2'⟩ := I.hok p' _ e2'
  unfold kas_ask
  rw [List.getD_eq_getElem?_getD, List.getD_eq_getElem?_getD, e1, e1']
  have l1 := r.length
  have l2 := r'.length
  rw [List.length_map, k1] at l1 l2
  refine kat_lt g c2 g' c2' ?_
  have z : decide (its.toArray.size < its'.toArray.size) = false := by
    rw [decide_eq_false_iff_not, List.size_toArray, List.size_toArray]
    omega
  rw [z]
  exact lex_asks _ _ _ _ 0 (by rw [k1, k1]) r r' q
theorem vals_pick {xs : List V} {us : List Value} (r : Vals xs us) : ∀ (p : List Nat), (∀ i ∈ p, i < xs.length) → Vals (p.map fun i => xs.getD i .non) (p.map fun i => us.getD i Value.none)
  | [], _ => .nil
  | i :: p, h => by
    have hi := h i List.mem_cons_self
    have e : xs[i]? = some (xs.getD i .non) := by rw [List.getD_eq_getElem?_getD, List.getElem?_eq_getElem hi]; rfl
    obtain ⟨u, hu, ru⟩ := r.get e
    refine .cons ?_ (vals_pick r p fun j hj => h j (List.mem_cons_of_mem _ hj))
    show RelV (xs.getD i .non) (us.getD i Value.none)
    rw [List.getD_eq_getElem?_getD (l := us), hu]
    exact ru
theorem all_in (us : List Value) : (List.range us.length).map (fun i => us.getD i Value.none) = us := by
  apply List.ext_getElem
  · simp
  · intro i h1 h2
    simp [h2]
theorem call_sortK {l f : Addr} {xs : List V} {kf : Nat → List Int} {m : Nat} {Q : VK} (I : Inv X pins σ H s) (hl : SqL X.K H l xs) (hn : xs.length < 64) (k1 : ∀ i, (kf i).length = m) (m1 : 0 < m) (T : Tot xs.length (fun i j => HT.lexLt (kf i) (kf j)))
    (turn : ∀ i v, xs[i]? = some v → ∀ (pins' : List (Addr × Obj)) (s' : Shared) (H' : Hp) (u : Value), Inv X pins' σ H' s' → Same H H' → RelV v u → wpAny (model X.prog X.w) X.A.in1.in1 (call (.ref f) [u]) (EP X pins' σ fun k H'' => Same H' H'' ∧ ∃ p, k = .ref p ∧ H'' p = some (.tup ((kf i).map V.int))) (fun _ _ => False) s')
    (h : ∀ D H' (p : List Nat), Same H H' → H D = none → H' D = some (.lst (p.map fun i => xs.getD i .non)) → p.Perm (List.range xs.length) → (∀ i j, i < j → j < p.length → HT.lexLt (kf (p.getD i 0)) (kf (p.getD j 0)) = true) → Q (.ref D) H') :
    wpAny (model X.prog X.w) X.A (call (.builtin "sorted") [.ref l] [(Str.ofString "key", .ref f)]) (EP X pins σ Q) X.xe s := by
  obtain ⟨its, rv, pl, hz⟩ := I.list hl
  have il : its.length = xs.length := rv.length.symm
  have sl : (100 : Nat) ≤ sizeLine := by decide
  refine call_function_entry_kw kind_sorted plain_sorted entry_sorted (ksk_s1 _ _) ?_
  unfold Builtin.«sorted»
  refine wpAny_bind (m := checkCount "sorted" 1 1 _) (wpAny_pure ?_)
  refine wpAny_bind (collect_list pl.isList ?_ (by omega))
  refine wpAny_bind (wpAny_newList ?_ (by omega))
  have kA : ∀ b o, s.heap.get? b = some o → ((s.heap.push (seqObj "list" #[] 0)).update s.heap.objs.size (Obj.mapSeq (· ++ its.toArray))).get? b = some o := fun b o e => by
    rw [Heap.get?_update_ne _ _ _ _ (Nat.ne_of_lt (Heap.lt_size e))]
    exact Heap.get?_push_of_some _ e
  have sA : s.heap.objs.size ≤ ((s.heap.push (seqObj "list" #[] 0)).update s.heap.objs.size (Obj.mapSeq (· ++ its.toArray))).objs.size := by
    rw [Heap.size_update, size_push']
    exact Nat.le_succ _
  dsimp only
  generalize ((s.heap.push (seqObj "list" #[] 0)).update s.heap.objs.size (Obj.mapSeq (· ++ its.toArray))) = A1 at kA sA ⊢
  have hD : (A1.push (seqObj "list" its.toArray 0)).get? A1.objs.size = some (seqObj "list" its.toArray 0) := Heap.get?_push_size _ rfl
  generalize eD : A1.objs.size = D at hD sA ⊢
  have kB : ∀ b o, s.heap.get? b = some o → (A1.push (seqObj "list" its.toArray 0)).get? b = some o := fun b o e => Heap.get?_push_of_some _ (kA b o e)
  have dB : D < (A1.push (seqObj "list" its.toArray 0)).objs.size := Heap.lt_size hD
  generalize A1.push (seqObj "list" its.toArray 0) = A2 at hD kB dB ⊢
  refine wpAny_bind (wpAny_holding (wpAny_call_entry_kw slot_list_sort ⟨_, hD, rfl⟩ entry_list_sort ?body (ksk_l1 _ _)))
  case body =>
    show wpAny _ _ (Builtin.«list.sort» ⟨[.ref D], [(Str.ofString "key", .ref f)]⟩) _ _ _
    rw [ksk_t1]
    unfold ksk_tree
    refine wpAny_bind (listItems_at hD rfl ?_)
    refine wpAny_bind (listUpdate_at hD rfl ?_ (by rw [List.size_toArray]; omega) (Nat.zero_le _))
    obtain ⟨e1, hD1⟩ : ∃ e1, (A2.update D (Obj.mapSeq fun _ => (#[] : Array Value))).get? D = some (seqObj "list" #[] e1) := ⟨_, get?_update_seq hD fun _ => #[]⟩
    have kC : ∀ b o, s.heap.get? b = some o → (A2.update D (Obj.mapSeq fun _ => (#[] : Array Value))).get? b = some o := fun b o e => by
      rw [Heap.get?_update_ne _ _ _ _ (Nat.ne_of_lt (Nat.lt_of_lt_of_le (Heap.lt_size e) sA))]
      exact kB b o e
    dsimp only
    refine wpAny_bind (seqEpoch_at hD1 rfl ?_)
    refine wpAny_bind (wpAny_newTuple ?_ (by show its.length ≤ sizeLine; omega))
    refine wpAny_bind (wpAny_newList ?_ (Nat.zero_le _))
    refine wpAny_holding ?_
    dsimp only
    generalize A2.update D (Obj.mapSeq fun _ => (#[] : Array Value)) = A3 at hD1 kC ⊢
    have hD2 := Heap.get?_push_of_some (seqObj "tuple" its.toArray 0) hD1
    have kE : ∀ b o, s.heap.get? b = some o → (A3.push (seqObj "tuple" its.toArray 0)).get? b = some o := fun b o e => Heap.get?_push_of_some _ (kC b o e)
    have sE : D < (A3.push (seqObj "tuple" its.toArray 0)).objs.size := Heap.lt_size hD2
    show wpAny _ _ (ksk_rest D (.ref f) false its.toArray e1 (.ref (A3.push (seqObj "tuple" its.toArray 0)).objs.size)) _ _ { s with heap := (A3.push (seqObj "tuple" its.toArray 0)).push (seqObj "list" #[] 0) }
    generalize A3.push (seqObj "tuple" its.toArray 0) = A4 at hD2 kE sE ⊢
    have hk0 : (A4.push (seqObj "list" #[] 0)).get? A4.objs.size = some (seqObj "list" #[] 0) := Heap.get?_push_size _ rfl
    have hD3 := Heap.get?_push_of_some (seqObj "list" #[] 0) hD2
    have kF : ∀ b o, s.heap.get? b = some o → (A4.push (seqObj "list" #[] 0)).get? b = some o := fun b o e => Heap.get?_push_of_some _ (kE b o e)
    generalize A4.push (seqObj "list" #[] 0) = A5 at hk0 hD3 kF ⊢
    generalize A4.objs.size = kS at hk0 sE ⊢
    have ne : D ≠ kS := Nat.ne_of_lt sE
    have sK : s.heap.objs.size ≤ kS := Nat.le_trans sA (Nat.le_of_lt sE)
    have nK : H kS = none := I.hok.fresh sK
    have nD : H D = none := I.hok.fresh sA
    have fK := I.fpOk (H' := H) sK nK
    have fD := I.fpOk (H' := H) sA nD
    have I0 : Inv X ((kS, seqObj "list" (List.toArray []) 0) :: (D, seqObj "list" #[] e1) :: pins) σ H { s with heap := A5 } := (I.kept (t' := s.toks) (h' := A5) kF).pins_of fun p hp => by
      rcases List.mem_cons.mp hp with rfl | hp
      · exact ⟨hk0, nK, fK.2.1, fK.2.2.1, fun v z => by cases z⟩
      · rcases List.mem_cons.mp hp with rfl | hp
        · exact ⟨hD3, nD, fD.2.1, fD.2.2.1, fun v z => by cases z⟩
        · obtain ⟨g1, g2⟩ := I.pin p (List.mem_append_right _ hp)
          exact ⟨kF _ _ g1, g2⟩
    unfold ksk_rest
    refine wpAny_bind (wpAny_rule ?_)
    rw [← Array.forIn_toList]
    refine wpAny_bind (ksk_fold (fun i s' => ∃ e ks H', ks.length = i ∧ Inv X ((kS, seqObj "list" (List.toArray ks) e) :: (D, seqObj "list" #[] e1) :: pins) σ H' s' ∧ Same H H' ∧ KeysIn H' kf ks) its 0 _ ⟨0, [], H, rfl, I0, Same.refl _, fun j hj => by simp at hj⟩ (fun j x s' hx hI => ?step) fun s' hI => ?done)
    case step =>
      obtain ⟨e, ks, H', lk, I', sm, kin⟩ := hI
      have hjx : j < xs.length := by
        have := (List.getElem?_eq_some_iff.mp hx).1
        omega
      obtain ⟨v, hv, rvx⟩ : ∃ v, xs[j]? = some v ∧ RelV v x := by
        obtain ⟨u, hu, ru⟩ := rv.get (List.getElem?_eq_getElem hjx)
        rw [hx] at hu
        cases hu
        exact ⟨_, List.getElem?_eq_getElem hjx, ru⟩
      refine wpAny_bind (wpAny_attempt (wpAny_mono (turn j v hv _ s' H' x I' sm rvx) (fun k s'' hk => ?_) fun _ _ z => z.elim))
      obtain ⟨w, H'', I'', rw', sm', p, rfl, hp⟩ := hk
      obtain rfl : k = .ref p := rw'
      obtain ⟨hkS, nkS, _, _, _⟩ := I''.pin (kS, seqObj "list" (List.toArray ks) e) (List.mem_append_right _ List.mem_cons_self)
      dsimp only
      refine wpAny_bind (listUpdate_at hkS rfl ?_ (by rw [List.size_toArray]; omega) (by rw [Array.size_push, List.size_toArray]; omega))
      obtain ⟨c2, hc2⟩ : ∃ c2, (s''.heap.update kS (Obj.mapSeq (·.push (.ref p)))).get? kS = some (seqObj "list" (List.toArray (ks ++ [.ref p])) c2) := ⟨_, by
        have g := get?_update_seq hkS (·.push (.ref p))
        rw [show (List.toArray ks).push (.ref p) = List.toArray (ks ++ [.ref p]) by simp] at g
        exact g⟩
      have sb := Heap.SameBut.update s''.heap kS (Obj.mapSeq (·.push (.ref p)))
      have J : Inv X ((D, seqObj "list" #[] e1) :: pins) σ H'' { s'' with heap := s''.heap.update kS (Obj.mapSeq (·.push (.ref p))), toks := s''.toks } :=
        (I''.pins_of (pins' := (D, seqObj "list" #[] e1) :: pins) fun q hq => I''.pin q (List.mem_append_right _ (List.mem_cons_of_mem _ hq))).turned (fun b o n g => (sb.2 b n).trans g) nkS fK.2.1 fK.2.2.2.1 fK.2.2.2.2.1 fun q hq => by
          rcases List.mem_append.mp hq with hq | hq
          · exact fK.2.2.2.2.2 q (List.mem_append_left _ hq)
          · rcases List.mem_cons.mp hq with rfl | hq
            · exact ne
            · exact fK.2.2.2.2.2 q (List.mem_append_right _ hq)
      refine wpAny_pure ⟨rfl, c2, ks ++ [.ref p], H'', by simp [lk], J.pins_of fun q hq => ?_, sm.trans sm', fun i hi => ?_⟩
      · rcases List.mem_cons.mp hq with rfl | hq
        · exact ⟨hc2, nkS, fK.2.1, fK.2.2.1, fun v z => by cases z⟩
        · exact J.pin q (List.mem_append_right _ hq)
      · by_cases z : i < ks.length
        · obtain ⟨p', g1, g2⟩ := kin i z
          exact ⟨p', by rw [List.getElem?_append_left z]; exact g1, sm' _ _ g2⟩
        · have ei : i = ks.length := by simp at hi; omega
          refine ⟨p, by rw [ei]; simp, ?_⟩
          rw [ei, lk, Nat.zero_add]
          exact hp
    case done =>
      obtain ⟨e, ks, H', lk, I', sm, kin⟩ := hI
      rw [Nat.zero_add] at lk
      obtain ⟨hkS, nkS, _, _, _⟩ := I'.pin (kS, seqObj "list" (List.toArray ks) e) (List.mem_append_right _ List.mem_cons_self)
      obtain ⟨hDp, nDp, _, _, _⟩ := I'.pin (D, seqObj "list" #[] e1) (List.mem_append_right _ (List.mem_cons_of_mem _ List.mem_cons_self))
      refine wpAny_bind (listItems_at hkS rfl ?_)
      have tail : ∀ (st : SortSt) (p : List Nat), failedOf st = none → (arrOf st).map (·.2) = List.toArray (p.map fun i => its.getD i Value.none) → p.Perm (List.range xs.length) → (∀ i j, i < j → j < p.length → HT.lexLt (kf (p.getD i 0)) (kf (p.getD j 0)) = true) →
          wpAny (model X.prog X.w) X.A.in1.in1 (ksk_tail D false e1 (.ref kS) st) (fun fin s'' => ∃ v, fin = .done (.ret v) ∧ wpAny (model X.prog X.w) X.A.in1 (ret (.ref D)) (fun fin s'' => ∃ v, fin = .done (.ret v) ∧ EP X pins σ Q v s'') X.xe s'') X.xe s' := by
        intro st p hf hout hp hs
        have pl2 : p.length = xs.length := by simpa using hp.length_eq
        unfold ksk_tail
        dsimp only
        rw [hout]
        refine wpAny_bind (listUpdate_at hkS rfl ?_ (by rw [List.size_toArray]; omega) (Nat.zero_le _))
        refine wpAny_bind (wpAny_letGo ?_)
        have sb := Heap.SameBut.update s'.heap kS (Obj.mapSeq fun _ => (#[] : Array Value))
        have hD' := (sb.2 D ne).trans hDp
        refine wpAny_bind (seqEpoch_at hD' rfl ?_)
        refine wpAny_bind (listUpdate_at hD' rfl ?_ (Nat.zero_le _) (by simp; omega))
        rw [hf]
        simp only [bne_self_eq_false, Bool.false_eq_true, if_false]
        obtain ⟨c2, hc2⟩ : ∃ c2, ((s'.heap.update kS (Obj.mapSeq fun _ => (#[] : Array Value))).update D (Obj.mapSeq fun _ => List.toArray (p.map fun i => its.getD i Value.none))).get? D = some (seqObj "list" (List.toArray (p.map fun i => its.getD i Value.none)) c2) := ⟨_, get?_update_seq hD' fun _ => List.toArray (p.map fun i => its.getD i Value.none)⟩
        have sb2 := Heap.SameBut.update (s'.heap.update kS (Obj.mapSeq fun _ => (#[] : Array Value))) D (Obj.mapSeq fun _ => List.toArray (p.map fun i => its.getD i Value.none))
        have kp : ∀ b o, b ≠ kS → b ≠ D → s'.heap.get? b = some o → ((s'.heap.update kS (Obj.mapSeq fun _ => (#[] : Array Value))).update D (Obj.mapSeq fun _ => List.toArray (p.map fun i => its.getD i Value.none))).get? b = some o := fun b o n1 n2 g => (sb2.2 b n2).trans ((sb.2 b n1).trans g)
        have trk : ∀ b u, H' b = some u → b ≠ kS ∧ b ≠ D := fun b u g => ⟨(fun z => by rw [z, nkS] at g; cases g), fun z => by rw [z, nDp] at g; cases g⟩
        refine wpAny_pure ⟨_, rfl, wpAny_pure ⟨_, rfl, .ref D, upd H' D (.lst (p.map fun i => xs.getD i .non)), ?_, rfl, h D _ p (fun b u g => ?_) nD upd_same hp hs⟩⟩
        · refine (I'.pins_of (pins' := pins) fun q hq => I'.pin q (List.mem_append_right _ (List.mem_cons_of_mem _ (List.mem_cons_of_mem _ hq)))).step (g' := s'.gens) (d' := s'.drawn) (t' := s'.toks) (ch := [kS, D]) (fun b hb => ?_) (fun b o _ _ hc g _ => kp b o (fun z => hc (by simp [z])) (fun z => hc (by simp [z])) g)
            (fun b o _ _ hc g _ => ⟨o.slots, kp b o (fun z => hc (by simp [z])) (fun z => hc (by simp [z])) g⟩) (fun b o hc _ n => ?_) (fun b o hc g => ⟨o, kp b o (fun z => hc (by simp [z])) (fun z => hc (by simp [z])) g⟩) (fun b ys g => ?_) (fun b o u g => ?_) (fun b lp lq g => ?_) (fun mm hm => ?_) (fun b u g => ?_) I'.bare
          · rcases List.mem_cons.mp hb with rfl | hb
            · exact ⟨fK.2.2.2.1, fK.2.1, fK.2.2.2.2.1, fK.2.2.2.2.2⟩
            · have : b = D := by simpa using hb
              subst this
              exact ⟨fD.2.2.2.1, fD.2.1, fD.2.2.2.2.1, fD.2.2.2.2.2⟩
          · rw [upd_ne (fun z => hc (by simp [z]))]
            exact n
          · rw [upd_ne (trk b _ g).2]
            exact g
          · rw [upd_ne (trk b _ g).2]
            exact g
          · rw [upd_ne (trk b _ g).2]
            exact g
          · obtain ⟨o, es, ep, g, r⟩ := hm
            exact ⟨o, es, ep, kp _ o (Ne.symm fK.2.1) (Ne.symm fD.2.1) g, r⟩
          · by_cases z : b = D
            · subst z
              rw [upd_same] at g
              cases g
              refine ⟨by rw [List.length_map, pl2]; omega, _, c2, vals_pick rv p fun i hi => List.mem_range.mp (hp.mem_iff.mp hi), hc2⟩
            · rw [upd_ne z] at g
              refine (I'.hok b u g).stay (fun d v hd q => kp d v ?_ ?_ q) (fun d q => ?_) (fun d ys q => ?_) fun d ob ys q => ?_
              · rcases hd with y | y
                · rw [y]; exact (trk b u g).1
                · exact (trk d _ y).1
              · rcases hd with y | y
                · rw [y]; exact (trk b u g).2
                · exact (trk d _ y).2
              · rw [upd_ne (trk d _ q).2]
                exact q
              · rw [upd_ne (trk d _ q).2]
                exact q
              · rw [upd_ne (trk d _ q).2]
                exact q
        · rw [upd_ne (trk b _ (sm b u g)).2]
          exact sm b u g
      unfold ksk_end
      dsimp only
      simp only [Bool.false_eq_true, if_false]
      by_cases n2 : its.toArray.size < 2
      · rw [if_pos n2, if_pos n2]
        refine wpAny_bind (wpAny_pure ?_)
        rw [StateT.run_pure]
        refine wpAny_bind (wpAny_pure ?_)
        dsimp only
        refine tail _ (List.range xs.length) rfl ?_ (List.Perm.refl _) fun i j ij jl => ?_
        · show ((List.toArray ks).zip its.toArray).map (·.2) = _
          rw [← il, all_in]
          apply Array.toList_inj.mp
          rw [Array.toList_map, ksk_zip]
          exact List.map_snd_zip (by simp; omega)
        · rw [List.size_toArray] at n2
          rw [List.length_range] at jl
          omega
      · rw [if_neg n2, if_neg n2]
        rw [List.size_toArray] at n2
        refine wpAny_bind (keys_kind I' (fun i => by rw [k1]; exact m1) kin (by omega) ?_)
        refine wpAny_bind (wpAny_mono (kat_run (vs := its) (Q := fun st' s'' => ∃ p : Array Nat, arrOf st' = p.map (kas_item ((List.toArray ks).zip its.toArray)) ∧ failedOf st' = none ∧ s'' = s' ∧ Pm xs.length p ∧ Sd (fun i j => HT.lexLt (kf i) (kf j)) p xs.length) (G := fun p s'' => s'' = s' ∧ Pm xs.length p ∧ Sd (fun i j => HT.lexLt (kf i) (kf j)) p xs.length)
          lk (by omega) (by omega) (fun p st' s'' _ a2 a3 a4 => ⟨p, a2, a3, a4⟩) ?_) ?_ fun _ _ z => z)
        · rw [il]
          refine Asks.wp (n := xs.length) (lt := fun i j => HT.lexLt (kf i) (kf j)) (R := fun p => Pm xs.length p ∧ Sd (fun i j => HT.lexLt (kf i) (kf j)) p xs.length) (fun i j C hi hj hC => ?_) (fun p hp => ⟨rfl, hp⟩) _ (sort_ok T (by omega))
          exact keys_ask I' k1 kin (by omega) (by omega) hC
        · rintro ⟨⟨⟩, st'⟩ s'' ⟨p, har, hf, rfl, P, S⟩
          refine tail st' p.toList hf (kat_snds lk har) P.pm fun i j ij jl => ?_
          have e2 : ∀ k, p.toList.getD k 0 = p.getD k 0 := fun k => by rw [List.getD_eq_getElem?_getD, atq]; simp
          rw [e2, e2]
          exact S i j ij (by rw [Array.length_toList, P.sz] at jl; exact jl)
end
end L2

set_option Elab.async false
set_option linter.all false
set_option maxRecDepth 100000
set_option maxHeartbeats 4000000
namespace L2
open PySem PySem.Spec PyProof.Rows PySem.W
/-! ## sorted(xs, key=lambda x: ..), the lambda's keys tuples of ints -/
def tSortK (K : Frag) (T : Addr) (lp : Pos) (q : Str) (t : TA) (js : List Nat) (te : TE) : TE := fun σ H Q => t σ H fun vs H1 => ∃ (l : Addr) (xs : List V) (kf : Nat → List Int) (m : Nat), vs = [.ref l] ∧ SqL K H1 l xs ∧ xs.length < 64 ∧ (∀ i, (kf i).length = m) ∧ 0 < m ∧
  Tot xs.length (fun i j => HT.lexLt (kf i) (kf j)) ∧ H1 T = some (.tbl lp q) ∧ ∀ H2, Same H1 H2 →
    (∀ i v, xs[i]? = some v → ∀ H3, Same H2 H3 → te (some v :: caps σ js) H3 fun k H4 => Same H3 H4 ∧ ∃ p, k = .ref p ∧ H4 p = some (.tup ((kf i).map V.int))) ∧
    ∀ D H' (p : List Nat), Same H2 H' → H2 D = none → H' D = some (.lst (p.map fun i => xs.getD i .non)) → p.Perm (List.range xs.length) → (∀ i j, i < j → j < p.length → HT.lexLt (kf (p.getD i 0)) (kf (p.getD j 0)) = true) → Q (.ref D) H'
theorem pe_sortKey {X : Cx} {sp pos kp lp : Pos} {e : Expr} {ar : Arguments} {body : Expr} {scope : Scope} {q x : Str} {N : List Str} {js : List Nat} {T : Addr} {t : TA} {te : TE}
    (S : CompScope X scope x N js) (D : Site X.K X.mg X.base X.env.code T) (hq : X.env.qual ++ "<lambda>" = q) (hdp : X.A.depth < recursionLimit) (hc : X.calm = true) (hg : Gl X "sorted") (hm : X.mg "sorted" = none) (ha : PA X [e] t)
    (he : ∀ cl f cd s H, PE (cxLam X N scope cl q f cd X.A.in1.in1 s H) body te)
    (hd : defaultsOf ar X.env = ([], []) := by rfl) (co : scope.isCoroutine = false := by rfl) (ge : scope.isGenerator = false := by rfl)
    (hb : ∀ cl pm c ct u, bindArgs (kla_fn "<lambda>" q ar body scope cl pm c ct) ⟨[u], []⟩ = pure [(x, u)] := by intro _ _ _ _ _; rfl)
    (hst : backTo pos (starEach [e] X.env) = (false, eval e X.env) :: backTo pos (starEach [] X.env) := by rfl) :
    PE X (.Call (.Name "sorted" sp) [e] [⟨some "key", .Lambda ar body scope lp, kp⟩] pos) (tSortK X.K T lp q t js te) := by
  with_unfolding_all
    intro pins s σ H Q I h
    refine wpAny_Call_Name_kw (ld_blt I hg hm bt_sorted ?_)
    refine callWith_kw (thn (ha pos pins s σ H _ I h) fun us s1 ⟨vs, H1, I1, r, q1⟩ => ?_) hst (by rw [hst]; rfl) rfl rfl
    obtain ⟨l, xs, kf, m, rfl, hl, hn, k1, m1, Tt, hT, more⟩ := q1
    obtain ⟨u, rfl, ru⟩ := vals1 r
    cases ru
    refine kws_cons (lam_make I1 S D hT hq hd fun f cl s2 H2 I2 sm L => kws_nil ?_)
    obtain ⟨turn, fin⟩ := more H2 sm
    have hl2 : SqL X.K H2 l xs := sm.seq hl
    refine call_sortK (f := f) I2 hl2 hn k1 m1 Tt (fun i v hv pins' s' H' u I' sm' rv => ?_) fun D' H' p a1 a2 a3 a4 a5 => fin D' H' p a1 a2 a3 a4 a5
    exact lam_run (A := X.A.in1.in1) I' S (L.same sm') I'.ok.frames (I'.ok.hd hc) hdp co ge (hb cl) (fun cd => he cl f cd s' H') rv (turn i v hv H' sm')
structure FunC (K : Frag) (x qual : Str) (st : Stmt) (f : Addr) (fd : FuncData) (cv : Value) : Prop where
  ex : ∃ (oc : Value) (od : Option Addr) (kV doc pm : Value) (an : Option Addr) (ct : Value) (osl : Array (Option Value)),
    fd = fnOf x qual (defArgs st) (defBody st) (defScope st) .none kV doc pm an cv ct ∧ K.lookup f = some ⟨oc, od, .func fd, osl⟩ ∧ codeIn K cv qual = true
theorem FunC.ok {P : Program} {w : World} {K : Frag} {mg : Str → Option Value} {base : Heap} {x qual : Str} {st : Stmt} {f : Addr} {fd : FuncData} {cv : Value} {N ps : List Str} {k : Nat} {sp : Sp} (F : FunC K x qual st f fd cv) (S : FnScope N ps (defScope st)) (len : ∀ vs H Q E, sp vs H Q E → vs.length = ps.length)
    (hbody : ∀ (A : Around) (outer : List Env) (s : Shared) (H : Hp) (vs : List V) (Q : VK) (E : XK), Room k (A.deeper (envOfC qual (defScope st) s.heap.objs.size f cv)) → sp vs H Q E →
      ∃ t, PSs (cxOf CX0 P w K mg base N qual (defScope st) f cv A outer s H E).nox (defBody st) t ∧ t { nx := fun _ H' => Q .non H', rt := Q } (start N vs) H) : FnOk P w K mg base CX0 (k + 1) f fd ps sp := by
  obtain ⟨oc, od, kV, doc, pm, an, ct, osl, rfl, lk, hcd⟩ := F.ex
  refine fn_of lk hcd S len fun A outer s H vs Q E hr hsp => ?_
  obtain ⟨t, h, q⟩ := hbody A outer s H vs Q E hr hsp
  exact ⟨t, h.nox, q⟩
theorem func_mk {K : Frag} {x qual : Str} {st : Stmt} {f : Addr} {oc : Value} {od an : Option Addr} {osl : Array (Option Value)} {kV doc pm cdv ct : Value} (l : K.lookup f = some ⟨oc, od, .func (fnOf x qual (defArgs st) (defBody st) (defScope st) .none kV doc pm an cdv ct), osl⟩)
    (c : codeIn K cdv qual = true) : FunC K x qual st f (fnOf x qual (defArgs st) (defBody st) (defScope st) .none kV doc pm an cdv ct) cdv := ⟨⟨oc, od, kV, doc, pm, an, ct, osl, rfl, l, c⟩⟩
structure DfnC (K : Frag) (mg : Str → Option Value) (x : Str) (st : Stmt) (ps : List Str) (f : Addr) (fd : FuncData) (cv : Value) : Prop where
  F : FunC K x x st f fd cv
  kp : keepIn K (.ref f) = true
  b : Binds K fd ps []
  m : mg x = some (.ref f)
theorem DfnC.cal {P : Program} {w : World} {K : Frag} {mg : Str → Option Value} {base : Heap} {x : Str} {st : Stmt} {ps : List Str} {f : Addr} {fd : FuncData} {cv : Value} {k : Nat} {sp : Sp}
    (D : DfnC K mg x st ps f fd cv) (G : FnOk P w K mg base CX0 k f fd ps sp) : Cal P w K mg base x k ps sp := ⟨⟨f, fd, G, D.b, D.m, D.kp⟩⟩
/-! ## the head: the law's call, one table tracked from the beginning -/
def tabless (K : Frag) : Bool := K.all fun p => match p.2.cls, p.2.data with | .none, .fields _ => false | _, _ => true
theorem tabless_ne : ∀ {K : Frag}, tabless K = true → ∀ {b : Addr} {vs : Array Value}, K.lookup b ≠ some { cls := .none, data := .fields vs }
  | [], _, b, vs, e => by cases e
  | (a, o) :: K, h, b, vs, e => by
    unfold tabless at h
    rw [List.all_cons, Bool.and_eq_true] at h
    rw [List.lookup_cons] at e
    cases z : b == a with
    | true =>
      rw [z] at e
      cases e
      exact absurd h.1 (by simp)
    | false =>
      rw [z] at e
      exact tabless_ne (K := K) h.2 e
end L2

set_option Elab.async false
set_option linter.all false
set_option maxRecDepth 100000
set_option maxHeartbeats 4000000
namespace L2
open PySem PySem.Spec PyProof.Rows
/-! ## the least common bottom, the keys of places -/
theorem dvd_27720 {b : Int} (h0 : 0 < b) (h1 : b ≤ 12) : b ∣ 27720 := by
  obtain ⟨k, rfl⟩ := Int.eq_ofNat_of_zero_le (Int.le_of_lt h0)
  have hk : k ≤ 12 := Int.ofNat_le.mp h1
  have hp : 0 < k := Int.ofNat_lt.mp h0
  match k, hk, hp with
  | 1, _, _ => exact ⟨27720, rfl⟩
  | 2, _, _ => exact ⟨13860, rfl⟩
  | 3, _, _ => exact ⟨9240, rfl⟩
  | 4, _, _ => exact ⟨6930, rfl⟩
  | 5, _, _ => exact ⟨5544, rfl⟩
  | 6, _, _ => exact ⟨4620, rfl⟩
  | 7, _, _ => exact ⟨3960, rfl⟩
  | 8, _, _ => exact ⟨3465, rfl⟩
  | 9, _, _ => exact ⟨3080, rfl⟩
  | 10, _, _ => exact ⟨2772, rfl⟩
  | 11, _, _ => exact ⟨2520, rfl⟩
  | 12, _, _ => exact ⟨2310, rfl⟩
theorem lcm_step {m b : Int} (hm : 0 < m) (hb : 0 < b) : 0 < m * b / M1.gd m b ∧ m ∣ m * b / M1.gd m b ∧ b ∣ m * b / M1.gd m b ∧ ∀ k : Int, m ∣ k → b ∣ k → m * b / M1.gd m b ∣ k := by
  obtain ⟨x, rfl⟩ := Int.eq_ofNat_of_zero_le (Int.le_of_lt hm)
  obtain ⟨y, rfl⟩ := Int.eq_ofNat_of_zero_le (Int.le_of_lt hb)
  have e : (x : Int) * (y : Int) / M1.gd x y = ((Nat.lcm x y : Nat) : Int) := by
    unfold M1.gd
    rw [Int.gcd_natCast_natCast]
    unfold Nat.lcm
    rw [← Int.natCast_mul, ← Int.natCast_ediv]
  rw [e]
  have x0 : 0 < x := by omega
  have y0 : 0 < y := by omega
  refine ⟨?_, ?_, ?_, fun k h1 h2 => ?_⟩
  · have := Nat.lcm_pos x0 y0
    omega
  · exact Int.natCast_dvd_natCast.mpr (Nat.dvd_lcm_left x y)
  · exact Int.natCast_dvd_natCast.mpr (Nat.dvd_lcm_right x y)
  · rw [Int.ofNat_dvd_left] at h1 h2 ⊢
    exact Nat.lcm_dvd h1 h2
def wM (c : Cl) (t M : Int) : Int := c.wt * (M / c.wb) + (t - c.came) * (c.st * (M / c.sb))
def kM (c : Cl) (t M : Int) : List Int := [-(wM c t M), c.came, c.n]
theorem wM_eq {c : Cl} {t M : Int} (h1 : c.wb ∣ M) (h2 : c.sb ∣ M) : wM c t M * wbot c = wtop c t * M := by
  have e1 := Int.ediv_mul_cancel h1
  have e2 := Int.ediv_mul_cancel h2
  unfold wM wbot wtop
  rw [Int.add_mul, Int.add_mul]
  congr 1
  · calc c.wt * (M / c.wb) * (c.wb * c.sb) = c.wt * c.sb * (M / c.wb * c.wb) := by ac_rfl
      _ = c.wt * c.sb * M := by rw [e1]
  · calc (t - c.came) * (c.st * (M / c.sb)) * (c.wb * c.sb) = (t - c.came) * c.st * c.wb * (M / c.sb * c.sb) := by ac_rfl
      _ = (t - c.came) * c.st * c.wb * M := by rw [e2]
theorem gap_M {c d : Cl} {t M : Int} (c1 : c.wb ∣ M) (c2 : c.sb ∣ M) (d1 : d.wb ∣ M) (d2 : d.sb ∣ M) : gap c d t * M = (wM c t M - wM d t M) * (wbot c * wbot d) := by
  have e1 := wM_eq (t := t) c1 c2
  have e2 := wM_eq (t := t) d1 d2
  unfold gap
  rw [Int.sub_mul, Int.sub_mul]
  congr 1
  · calc wtop c t * wbot d * M = (wtop c t * M) * wbot d := by ac_rfl
      _ = (wM c t M * wbot c) * wbot d := by rw [e1]
      _ = wM c t M * (wbot c * wbot d) := by ac_rfl
  · calc wtop d t * wbot c * M = (wtop d t * M) * wbot c := by ac_rfl
      _ = (wM d t M * wbot d) * wbot c := by rw [e2]
      _ = wM d t M * (wbot c * wbot d) := by ac_rfl
theorem lex_ahd {c d : Cl} {t M : Int} (oc : c.Ok) (od : d.Ok) (hM : 0 < M) (c1 : c.wb ∣ M) (c2 : c.sb ∣ M) (d1 : d.wb ∣ M) (d2 : d.sb ∣ M) : HT.lexLt (kM c t M) (kM d t M) = ahd c d t := by
  have e := gap_M (t := t) c1 c2 d1 d2
  have bp : 0 < wbot c * wbot d := Int.mul_pos (bot_pos oc) (bot_pos od)
  unfold kM ahd
  rw [HT.lexLt_cons, lex_tie]
  rcases (by omega : wM c t M - wM d t M < 0 ∨ wM c t M - wM d t M = 0 ∨ 0 < wM c t M - wM d t M) with z | z | z
  · have g : gap c d t < 0 := by
      refine Int.not_le.mp fun y => ?_
      have h1 := Int.mul_nonneg y (Int.le_of_lt hM)
      have h2 := Int.mul_neg_of_neg_of_pos z bp
      omega
    rw [if_neg (by omega), if_neg (by omega), decide_eq_false (by omega), decide_eq_false (by omega)]
  · have g : gap c d t = 0 := by
      rw [z, Int.zero_mul] at e
      rcases Int.mul_eq_zero.mp e with y | y
      · exact y
      · omega
    rw [if_pos (by omega), if_pos g]
  · have g : 0 < gap c d t := by
      refine Int.not_le.mp fun y => ?_
      have h1 := Int.mul_nonpos_of_nonpos_of_nonneg y (Int.le_of_lt hM)
      have h2 := Int.mul_pos z bp
      omega
    rw [if_neg (by omega), if_neg (by omega), decide_eq_true (by omega), decide_eq_true (by omega)]
theorem nd_ne {cs : List Cl} (g : Good cs) {i j : Nat} {c d : Cl} (h1 : cs[i]? = some c) (h2 : cs[j]? = some d) (ne : i ≠ j) : c.n ≠ d.n := fun e => by
  obtain ⟨a1, b1⟩ := List.getElem?_eq_some_iff.mp h1
  obtain ⟨a2, b2⟩ := List.getElem?_eq_some_iff.mp h2
  have nd := g.nd
  have := (List.getElem_inj (xs := cs.map (·.n)) (i := i) (j := j) (h₀ := by simpa using a1) (h₁ := by simpa using a2) nd).mp (by rw [List.getElem_map, List.getElem_map, b1, b2]; exact e)
  exact ne this
def lt_at (cs : List Cl) (t : Int) (i j : Nat) : Bool := match cs[i]?, cs[j]? with
  | some c, some d => ahd c d t
  | _, _ => false
theorem tot_at {cs : List Cl} (g : Good cs) (t : Int) : Tot cs.length (lt_at cs t) where
  asym := fun i j hi hj h => by
    unfold lt_at at h ⊢
    rw [List.getElem?_eq_getElem hi, List.getElem?_eq_getElem hj] at h ⊢
    cases z : ahd cs[j] cs[i] t with
    | false => exact z
    | true => exact (ahd_asymm h z).elim
  tot := fun i j hi hj ne h => by
    unfold lt_at at h ⊢
    rw [List.getElem?_eq_getElem hi, List.getElem?_eq_getElem hj] at h ⊢
    show ahd cs[j] cs[i] t = true
    rw [ahd_swap (nd_ne g (List.getElem?_eq_getElem hi) (List.getElem?_eq_getElem hj) ne)]
    have h : ahd cs[i] cs[j] t = false := h
    rw [h]
    rfl
  trans := fun i j k hi hj hk h1 h2 => by
    unfold lt_at at h1 h2 ⊢
    rw [List.getElem?_eq_getElem hi, List.getElem?_eq_getElem hj] at h1
    rw [List.getElem?_eq_getElem hj, List.getElem?_eq_getElem hk] at h2
    rw [List.getElem?_eq_getElem hi, List.getElem?_eq_getElem hk]
    exact ahd_trans (g.ok _ (List.getElem_mem hi)) (g.ok _ (List.getElem_mem hj)) (g.ok _ (List.getElem_mem hk)) h1 h2
def kf_at (cs : List Cl) (t M : Int) (i : Nat) : List Int := match cs[i]? with
  | some c => kM c t M
  | none => [0, 0, 0]
theorem kf_len (cs : List Cl) (t M : Int) (i : Nat) : (kf_at cs t M i).length = 3 := by
  unfold kf_at
  cases cs[i]? <;> rfl
theorem kf_lt {cs : List Cl} (g : Good cs) {t M : Int} (hM : 0 < M) (hd : ∀ c ∈ cs, c.wb ∣ M ∧ c.sb ∣ M) {i j : Nat} (hi : i < cs.length) (hj : j < cs.length) : HT.lexLt (kf_at cs t M i) (kf_at cs t M j) = lt_at cs t i j := by
  unfold kf_at lt_at
  rw [List.getElem?_eq_getElem hi, List.getElem?_eq_getElem hj]
  have m1 := List.getElem_mem hi
  have m2 := List.getElem_mem hj
  exact lex_ahd (g.ok _ m1) (g.ok _ m2) hM (hd _ m1).1 (hd _ m1).2 (hd _ m2).1 (hd _ m2).2
theorem Tot.congr {n : Nat} {lt lt' : Nat → Nat → Bool} (T : Tot n lt) (h : ∀ i j, i < n → j < n → lt' i j = lt i j) : Tot n lt' where
  asym := fun i j hi hj e => by
    rw [h i j hi hj] at e
    rw [h j i hj hi]
    exact T.asym i j hi hj e
  tot := fun i j hi hj ne e => by
    rw [h i j hi hj] at e
    rw [h j i hj hi]
    exact T.tot i j hi hj ne e
  trans := fun i j k hi hj hk e1 e2 => by
    rw [h i j hi hj] at e1
    rw [h j k hj hk] at e2
    rw [h i k hi hk]
    exact T.trans i j k hi hj hk e1 e2
theorem kf_tot {cs : List Cl} (g : Good cs) {t M : Int} (hM : 0 < M) (hd : ∀ c ∈ cs, c.wb ∣ M ∧ c.sb ∣ M) : Tot cs.length (fun i j => HT.lexLt (kf_at cs t M i) (kf_at cs t M j)) := (tot_at g t).congr fun i j hi hj => kf_lt g hM hd hi hj
theorem pick_perm {α : Type} (d : α) (xs : List α) {p : List Nat} (h : p.Perm (List.range xs.length)) : (p.map fun i => xs.getD i d).Perm xs := by
  have e : (List.range xs.length).map (fun i => xs.getD i d) = xs := by
    apply List.ext_getElem
    · simp
    · intro i h1 h2
      simp [h2]
  have := h.map fun i => xs.getD i d
  rw [e] at this
  exact this
theorem pick_srt {ps : List (Addr × Cl)} (g : Good (ps.map (·.2))) {t M : Int} (hM : 0 < M) (hd : ∀ c ∈ ps.map (·.2), c.wb ∣ M ∧ c.sb ∣ M) {p : List Nat} (h : p.Perm (List.range (ps.map (·.2)).length)) (d : Addr × Cl)
    (hs : ∀ i j, i < j → j < p.length → HT.lexLt (kf_at (ps.map (·.2)) t M (p.getD i 0)) (kf_at (ps.map (·.2)) t M (p.getD j 0)) = true) : Srt t ((p.map fun i => ps.getD i d).map (·.2)) := by
  unfold Srt
  rw [List.map_map, List.pairwise_iff_getElem]
  intro i j hi hj ij
  rw [List.length_map] at hi hj
  have lt : ∀ k (hk : k < p.length), p[k] < (ps.map (·.2)).length := fun k hk => List.mem_range.mp (h.mem_iff.mp (List.getElem_mem hk))
  have z := hs i j ij hj
  rw [List.getD_eq_getElem?_getD, List.getD_eq_getElem?_getD, List.getElem?_eq_getElem hi, List.getElem?_eq_getElem hj] at z
  have z : HT.lexLt (kf_at (ps.map (·.2)) t M p[i]) (kf_at (ps.map (·.2)) t M p[j]) = true := z
  rw [kf_lt g hM hd (lt i hi) (lt j hj)] at z
  unfold lt_at at z
  rw [List.getElem?_eq_getElem (lt i hi), List.getElem?_eq_getElem (lt j hj)] at z
  have z : ahd ((ps.map (·.2))[p[i]]'(lt i hi)) ((ps.map (·.2))[p[j]]'(lt j hj)) t = true := z
  rw [List.getElem_map, List.getElem_map] at z
  rw [List.getElem_map, List.getElem_map]
  have e : ∀ k (hk : k < p.length), ps.getD p[k] d = ps[p[k]]'(by have := lt k hk; simpa using this) := fun k hk => by
    have := lt k hk
    rw [List.getD_eq_getElem?_getD, List.getElem?_eq_getElem (by simpa using this)]
    rfl
  show ahd (ps.getD p[i] d).2 (ps.getD p[j] d).2 t = true
  rw [e i hi, e j hj]
  exact z
section
variable {X : Cx}
end
end L2

set_option Elab.async false
set_option linter.all false
set_option maxRecDepth 100000
set_option maxHeartbeats 4000000
namespace L2
open PySem PySem.Spec PyProof.Rows PySem.W
/-! ## sorted(xs), xs tuples of ints that are all unlike -/
section
variable {X : Cx}
end
end L2

set_option Elab.async false
set_option linter.all false
set_option maxRecDepth 100000
set_option maxHeartbeats 4000000
namespace L2
open PySem PySem.Spec PyProof.Rows
/-! ## rows of passings -/
abbrev Row := Int × Int × Int
def Row.key (r : Row) : List Int := [r.1, r.2.1, r.2.2]
def rlt (r q : Row) : Bool := HT.lexLt (Row.key r) (Row.key q)
def rk (rows : List Row) (i : Nat) : List Int := match rows[i]? with
  | some r => Row.key r
  | none => [0, 0, 0]
noncomputable def mt (b l : Cl) (t : Int) : Option Int := open Classical in if h : ∃ u, Pass b l t (.int u) then some h.choose else none
structure RowsOf (cs : List Cl) (t : Int) (rows : List Row) : Prop where
  srt : rows.Pairwise fun r q => rlt r q = true
  mem : ∀ r : Row, r ∈ rows ↔ ∃ b f, b ∈ cs ∧ f ∈ cs ∧ ahd f b t = true ∧ mt b f t = some r.1 ∧ r.2.1 = b.n ∧ r.2.2 = f.n
theorem srt_lt {cs : List Cl} {t : Int} (h : Srt t cs) {j k : Nat} {b f : Cl} (hb : cs[j]? = some b) (hf : cs[k]? = some f) (kj : k < j) : ahd f b t = true := by
  obtain ⟨a1, b1⟩ := List.getElem?_eq_some_iff.mp hb
  obtain ⟨a2, b2⟩ := List.getElem?_eq_some_iff.mp hf
  have := (List.pairwise_iff_getElem.mp h) k j a2 a1 kj
  rw [b1, b2] at this
  exact this
structure IsRows (H : Hp) (l : Addr) (rs : List (Addr × Row)) : Prop where
  at_ : H l = some (.lst (rs.map fun r => V.ref r.1))
  rw : ∀ r, r ∈ rs → H r.1 = some (.tup ((Row.key r.2).map V.int))
end L2

set_option Elab.async false
set_option linter.all false
set_option maxRecDepth 100000
set_option maxHeartbeats 4000000
namespace L2
open PySem PySem.Spec PyProof.Rows
theorem comp_tups {K : PySem.W.Frag} {a : Addr} {xs : List V} {js : List Nat} {tc : TT} {te : TE} {σ : St} {H1 : Hp} {Q : VK} (p : Nat → Bool) (f : Nat → List V) (hl : SqL K H1 a xs)
    (ht : ∀ i x Hh (Q' : Bool → Hp → Prop), xs[i]? = some x → Same H1 Hh → (∀ Hh', Same Hh Hh' → Q' (p i) Hh') → tc (some x :: caps σ js) Hh Q')
    (he : ∀ i x Hh (Q' : VK), xs[i]? = some x → p i = true → Same H1 Hh → (∀ b Hh', Same Hh Hh' → Hh' b = some (.tup (f i)) → Q' (.ref b) Hh') → te (some x :: caps σ js) Hh Q')
    (hz : xs.length < sizeLine) (q : ∀ D H2 (bs : List (Addr × List V)), Same H1 H2 → H1 D = none → H2 D = some (.lst (bs.map fun b => V.ref b.1)) → bs.map (·.2) = ((List.range xs.length).filter p).map f → (∀ b, b ∈ bs → H2 b.1 = some (.tup b.2)) → Q (.ref D) H2) :
    CompGo (Itl K a) js tc te σ H1 Q := by
  intro D H2 s2 hD h2
  refine ⟨fun i m acc H3 => m = xs.length - i ∧ i ≤ xs.length ∧ ∃ bs : List (Addr × List V), acc = (bs.map fun b => V.ref b.1) ∧ bs.map (·.2) = ((List.range i).filter p).map f ∧ (∀ b, b ∈ bs → H3 b.1 = some (.tup b.2)) ∧ Same H1 H3 ∧ H3 D = some (.lst acc), ⟨_, rfl, Nat.zero_le _, [], rfl, by simp, fun b hb => by simp at hb, s2, h2⟩, ?_⟩
  rintro i m acc H3 ⟨rfl, hi, bs, ea, eb, hb, s3, h3⟩
  have hl3 : SqL K H3 a xs := s3.seq hl
  have hll : acc.length ≤ xs.length := by
    have e := congrArg List.length eb
    rw [List.length_map, List.length_map] at e
    rw [ea, List.length_map, e]
    refine Nat.le_trans (List.length_filter_le _ _) ?_
    rw [List.length_range]
    exact hi
  refine ⟨h3, by omega, ?_⟩
  by_cases hlt : i < xs.length
  · have hx : xs[i]? = some xs[i] := List.getElem?_eq_getElem hlt
    refine .inr ⟨⟨xs, _, hl3, hx⟩, fun y H4 z => ?_⟩
    obtain ⟨e, ey⟩ := z
    have ey2 := ey xs hl3
    subst e
    refine ht i y _ _ ey2 s3 fun H5 s5 => ?_
    have h5 := s5 _ _ h3
    have s35 := s3.trans s5
    have tk : (List.range (i + 1)).filter p = (List.range i).filter p ++ (if p i = true then [i] else []) := by
      rw [List.range_succ, List.filter_append]
      congr 1
      cases h : p i <;> simp [h]
    cases hp : p i with
    | true =>
      refine iteT (he i y _ _ ey2 hp s35 fun b6 H6 s6 g6 => ⟨s6 _ _ h5, fun H7 k7 h7 => ⟨xs.length - (i + 1), by omega, rfl, hlt, bs ++ [(b6, f i)], ?_, ?_, fun b hb' => ?_, fun b o e => ?_, h7⟩⟩)
      · rw [ea, List.map_append]
        rfl
      · rw [List.map_append, eb, tk, hp, if_pos rfl, List.map_append]
        rfl
      · have nD : ∀ c t, H6 c = some (.tup t) → c ≠ D := fun c t g z => by
          rw [z, s6 _ _ h5] at g
          cases g
        rcases List.mem_append.mp hb' with h | h
        · have g := s6 _ _ (s5 _ _ (hb b h))
          exact k7 _ _ (nD _ _ g) g
        · have : b = (b6, f i) := by simpa using h
          subst this
          exact k7 _ _ (nD _ _ g6) g6
      · by_cases hbD : b = D
        · subst hbD
          rw [hD] at e
          cases e
        · exact k7 b o hbD (s6 b o (s35 b o e))
    | false =>
      refine iteF ⟨xs.length - (i + 1), by omega, rfl, hlt, bs, ea, ?_, fun b hb' => s5 _ _ (hb b hb'), s35, h5⟩
      rw [tk, hp, if_neg Bool.false_ne_true, List.append_nil]
      exact eb
  · have e : i = xs.length := by omega
    subst e
    refine .inl ⟨⟨xs, hl3, Nat.le_refl _⟩, ?_⟩
    rw [ea] at h3
    exact q D _ bs s3 hD h3 eb hb
section
variable {X : Cx} {K : PySem.W.Frag}
end
section
variable {X : Cx}
def tDNewS : TE := fun _ H Q => ∀ p H2, Same H H2 → H p = none → H2 p = some (.dK []) → Q (.ref p) H2
theorem pe_dnewS {pos : Pos} : PE X (.Dict [] [] pos) tDNewS := by
  with_unfolding_all
    exact fun pins s σ H Q I h => pe_dnewK pins s σ H Q I fun p n => h p _ (same_new n _) n upd_same
end
def isStar : Expr → Bool
  | .Starred .. => true
  | _ => false
theorem star_plain {e : Expr} (h : isStar e = false) (rest : List Expr) (env : Env) : starEach (e :: rest) env = (false, eval e env) :: starEach rest env := by
  cases e <;> first | rfl | cases h
section
variable {X : Cx}
theorem pa_consP {e : Expr} {es : List Expr} {te : TE} {t : TA} (ha : PE X e te) (hr : PA X es t) (hs : isStar e = false := by rfl) : PA X (e :: es) (tCons te t) := pa_cons ha hr (star_plain hs es X.env)
end
theorem len_sub : ∀ {l m : List Int}, l.Nodup → (∀ x, x ∈ l → x ∈ m) → l.length ≤ m.length
  | [], m, _, _ => Nat.zero_le _
  | x :: l, m, nd, h => by
    have hx := h x List.mem_cons_self
    obtain ⟨n1, n2⟩ := List.nodup_cons.mp nd
    have := len_sub (l := l) (m := m.erase x) n2 fun y hy => (List.mem_erase_of_ne (fun e => n1 (by rw [← e]; exact hy))).mpr (h y (List.mem_cons_of_mem _ hy))
    rw [List.length_erase_of_mem hx] at this
    have := List.length_pos_of_mem hx
    rw [List.length_cons]
    omega
theorem inV_mem {k : Int} : ∀ {ns : List Int}, inV (.int k) (ns.map V.int) = decide (k ∈ ns)
  | [] => by simp [inV]
  | n :: ns => by
    have ih := inV_mem (k := k) (ns := ns)
    unfold inV at ih ⊢
    rw [List.map_cons, List.any_cons, ih]
    by_cases e : k = n
    · subst e
      simp [eqV]
    · simp [eqV, e, Ne.symm e]
def tak {α : Type} (xs : List α) (P : α → Bool) (i : Nat) : Bool := match xs[i]? with
  | some x => P x
  | none => false
theorem tak_fil {α : Type} (P : α → Bool) (g : α → V) : ∀ xs : List α, ((List.range xs.length).filter (tak xs P)).map (itm xs g) = (xs.filter P).map g
  | [] => rfl
  | x :: xs => by
    rw [List.length_cons, List.range_succ_eq_map, List.filter_cons, List.filter_map]
    have e1 : (tak (x :: xs) P ∘ Nat.succ) = tak xs P := rfl
    have e2 : ∀ l : List Nat, (l.map Nat.succ).map (itm (x :: xs) g) = l.map (itm xs g) := fun l => by
      rw [List.map_map]
      rfl
    rw [e1, List.filter_cons]
    have e3 : tak (x :: xs) P 0 = P x := rfl
    rw [e3]
    cases P x with
    | true =>
      rw [if_pos rfl, if_pos rfl, List.map_cons, List.map_cons, e2, tak_fil P g xs]
      rfl
    | false =>
      rw [if_neg Bool.false_ne_true, if_neg Bool.false_ne_true, e2, tak_fil P g xs]
def itl {α : Type} (xs : List α) (g : α → List V) (i : Nat) : List V := match xs[i]? with
  | some x => g x
  | none => []
theorem tak_fll {α : Type} (P : α → Bool) (g : α → List V) : ∀ xs : List α, ((List.range xs.length).filter (tak xs P)).map (itl xs g) = (xs.filter P).map g
  | [] => rfl
  | x :: xs => by
    rw [List.length_cons, List.range_succ_eq_map, List.filter_cons, List.filter_map]
    have e1 : (tak (x :: xs) P ∘ Nat.succ) = tak xs P := rfl
    have e2 : ∀ l : List Nat, (l.map Nat.succ).map (itl (x :: xs) g) = l.map (itl xs g) := fun l => by
      rw [List.map_map]
      rfl
    rw [e1, List.filter_cons]
    have e3 : tak (x :: xs) P 0 = P x := rfl
    rw [e3]
    cases P x with
    | true =>
      rw [if_pos rfl, if_pos rfl, List.map_cons, List.map_cons, e2, tak_fll P g xs]
      rfl
    | false =>
      rw [if_neg Bool.false_ne_true, if_neg Bool.false_ne_true, e2, tak_fll P g xs]
end L2

set_option Elab.async false
set_option linter.all false
set_option maxRecDepth 100000
set_option maxHeartbeats 4000000
namespace L2
open PySem PySem.Spec PyProof.Rows
section
variable {X : Cx}
@[irreducible] def PAi (X : Cx) (es : List Expr) (t : TA) : Prop := PA X es t
theorem pai_nil : PAi X [] tNil := by
  unfold PAi
  exact pa_nil
theorem pai_cons {e : Expr} {es : List Expr} {te : TE} {t : TA} (ha : PE X e te) (hr : PAi X es t) (hs : isStar e = false := by rfl) : PAi X (e :: es) (tCons te t) := by
  unfold PAi at *
  exact pa_consP ha hr hs
theorem pai {es : List Expr} {t : TA} (h : PAi X es t) : PA X es t := by
  unfold PAi at h
  exact h
end
end L2

set_option Elab.async false
set_option linter.all false
namespace L2
open PySem
/-! ## small numbers, case by case -/
/-! ## lists of a length -/
theorem ul1 {α : Type} {us : List α} (h : us.length = 1) : ∃ a1, us = [a1] := by
  match us, h with
  | [a1], _ => exact ⟨a1, rfl⟩
theorem ul2 {α : Type} {us : List α} (h : us.length = 2) : ∃ a1 a2, us = [a1, a2] := by
  match us, h with
  | [a1, a2], _ => exact ⟨a1, a2, rfl⟩
theorem ul3 {α : Type} {us : List α} (h : us.length = 3) : ∃ a1 a2 a3, us = [a1, a2, a3] := by
  match us, h with
  | [a1, a2, a3], _ => exact ⟨a1, a2, a3, rfl⟩
theorem ul4 {α : Type} {us : List α} (h : us.length = 4) : ∃ a1 a2 a3 a4, us = [a1, a2, a3, a4] := by
  match us, h with
  | [a1, a2, a3, a4], _ => exact ⟨a1, a2, a3, a4, rfl⟩
theorem ul5 {α : Type} {us : List α} (h : us.length = 5) : ∃ a1 a2 a3 a4 a5, us = [a1, a2, a3, a4, a5] := by
  match us, h with
  | [a1, a2, a3, a4, a5], _ => exact ⟨a1, a2, a3, a4, a5, rfl⟩
end L2

set_option Elab.async false
set_option linter.all false
set_option maxRecDepth 100000
set_option maxHeartbeats 4000000
namespace L2
open PySem PySem.Spec PyProof.Rows
/-! ## comers: when somebody may still come and be ahead -/
def Cl.at (d : Cl) (x : Int) : Cl := ⟨d.n, d.wt, d.wb, d.st, d.sb, x⟩
def ovr (c d : Cl) (t : Int) : Bool := decide (0 < gap d c t)
def abl (c d : Cl) (x u : Int) : Bool := ovr c (d.at x) x || ovr c (d.at x) u
inductive LastAt (c d : Cl) (b u : Int) : V → Prop
  | no : (∀ x, b ≤ x → x ≤ u → abl c d x u = false) → LastAt c d b u .non
  | at (r : Int) : b ≤ r → r ≤ u → abl c d r u = true → (∀ x, r < x → x ≤ u → abl c d x u = false) → LastAt c d b u (.int r)
/-! ## comprehensions over range whose parts make things -/
/-! ## a statement that raises nothing, in a def that may raise -/
section
variable {X : Cx}
end
end L2

set_option Elab.async false
set_option linter.all false
set_option maxRecDepth 100000
set_option maxHeartbeats 4000000
namespace L2
open PySem PySem.Spec PyProof.Rows
/-! ### a list comprehension whose target is a tuple of names -/
def CompGoT (J : It) (nk : Nat) (g : TG) (js : List Nat) (tc : TT) (te : TE) (σ : St) (H1 : Hp) (Q : VK) : Prop :=
  ∀ D H2, Same H1 H2 → H1 D = none → H2 D = some (.lst []) → ∃ W : Nat → Nat → List V → Hp → Prop, (∃ m, W 0 m [] H2) ∧ ∀ i m acc H3, W i m acc H3 →
    H3 D = some (.lst acc) ∧ acc.length < sizeLine ∧ ((J.stop i H3 ∧ Q (.ref D) H3) ∨ (J.go i H3 ∧ ∀ os : St, os.length = nk → ∀ x H4, J.yld i H3 x H4 →
      g x (os ++ caps σ js) H4 fun σ5 H5 => ∃ o5 : St, o5.length = nk ∧ σ5 = o5 ++ caps σ js ∧
      tc (o5 ++ caps σ js) H5 fun b H5 => if b = true then te (o5 ++ caps σ js) H5 fun v H6 => H6 D = some (.lst acc) ∧
          ∀ H7, (∀ b o, b ≠ D → H6 b = some o → H7 b = some o) → H7 D = some (.lst (acc ++ [v])) → ∃ m', m' < m ∧ W (i + 1) m' (acc ++ [v]) H7
        else ∃ m', m' < m ∧ W (i + 1) m' acc H5))
def tCompT (wi : TI) (nk : Nat) (g : TG) (js : List Nat) (tc : TT) (te : TE) : TE := fun σ H Q => wi σ H fun J H1 => CompGoT J nk g js tc te σ H1 Q
structure CompScopeN (X : Cx) (scope : Scope) (nk : Nat) (N : List Str) (js : List Nat) : Prop where
  kind : scope.kind = .function
  nocell : ∀ y ∈ scope.names, y.2 ≠ .cell
  loc : ∀ y ∈ scope.names, y.2 = .local → scope.names.lookup y.1 = some .local
  own : ∀ (i : Nat) (x : Str), N[i]? = some x → i < nk → scope.names.lookup x = some .local
  free : ∀ y ∈ scope.names, y.2 = .free → X.env.kindOf y.1 = some .cell
  nd : N.Nodup
  len : N.length = js.length + nk
  apart : ∀ y, scope.names.lookup y = some .local → (y, NameKind.free) ∉ scope.names
  cap : ∀ (k j : Nat) (y : Str), N[k + nk]? = some y → js[k]? = some j → X.N[j]? = some y ∧ Vis X.env.scope y ∧ X.env.kindOf y = some .cell ∧ (y, NameKind.free) ∈ scope.names
theorem CompScopeN.of {X : Cx} {scope : Scope} {nk : Nat} {N : List Str} {js : List Nat} (c1 : scope.kind = .function) (c2 : (scope.names.all fun y => y.2 != .cell) = true)
    (c3 : (scope.names.all fun y => y.2 != .local || scope.names.lookup y.1 == some .local) = true) (c4 : ((N.take nk).all fun x => scope.names.lookup x == some .local) = true) (c5 : (scope.names.all fun y => y.2 != .free || X.env.kindOf y.1 == some .cell) = true)
    (nd : N.Nodup) (len : N.length = js.length + nk) (c6 : (scope.names.all fun y => y.2 != .free || scope.names.lookup y.1 != some .local) = true)
    (c7 : (((N.drop nk).zip js).all fun p => X.N[p.2]? == some p.1 && X.env.scope.names.lookup p.1 == some .cell && scope.names.contains (p.1, NameKind.free)) = true) : CompScopeN X scope nk N js where
  kind := c1
  nocell := fun y hy e => by
    have := List.all_eq_true.mp c2 y hy
    rw [e] at this
    exact absurd this (by decide)
  loc := fun y hy e => by
    have := List.all_eq_true.mp c3 y hy
    rw [e] at this
    simpa using this
  own := fun i x e h => by
    have m : x ∈ N.take nk := List.mem_of_getElem? (i := i) (by rw [List.getElem?_take, if_pos h]; exact e)
    simpa using List.all_eq_true.mp c4 x m
  free := fun y hy e => by
    have := List.all_eq_true.mp c5 y hy
    rw [e] at this
    simpa using this
  nd := nd
  len := len
  apart := fun y hl hm => by
    have := List.all_eq_true.mp c6 _ hm
    rw [hl] at this
    simp at this
  cap := fun k j y h1 h2 => by
    have hz : ((N.drop nk).zip js)[k]? = some (y, j) := by
      rw [List.getElem?_zip_eq_some]
      exact ⟨by rw [List.getElem?_drop, Nat.add_comm]; exact h1, h2⟩
    have := List.all_eq_true.mp c7 _ (List.mem_of_getElem? hz)
    simp only [Bool.and_eq_true, beq_iff_eq] at this
    obtain ⟨⟨a, b⟩, c⟩ := this
    exact ⟨a, .inr (.inl b), b, by simpa using c⟩
theorem pe_compT {X : Cx} {iter elt tg : Expr} {nk : Nat} {g : TG} {ifs : List Expr} {scope : Scope} {pos : Pos} {wi : TI} {N : List Str} {js : List Nat} {tc : TT} {te : TE}
    (hc : X.calm = true) (S : CompScopeN X scope nk N js) (hg : ∀ cl C s₀ H₀ ex, (∀ (i : Nat) (x : Str) (px : Pos), N[i]? = some x → i < nk → PG (cxComp X N scope cl C s₀ H₀ ex) (.Name x px) (gName i)) → PG (cxComp X N scope cl C s₀ H₀ ex) tg g) (hi : PI X tg iter wi)
    (ht : ∀ cl C s₀ H₀ ex, CTests (cxComp X N scope cl C s₀ H₀ ex) ifs tc) (he : ∀ cl C s₀ H₀ ex, PE (cxComp X N scope cl C s₀ H₀ ex) elt te)
    (hs : ∀ x, foldedSetIterable iter X.env x = pure x := by intro _; rfl) :
    PE X (.ListComp elt [⟨tg, iter, ifs, 0⟩] scope pos) (tCompT wi nk g js tc te) := by
  with_unfolding_all
    intro pins s σ H Q I h
    have hcells : ∀ y ∈ scope.names, y.2 = .free → ∃ c, X.env.cells.lookup y.1 = some c := fun y hy hf => I.ok.has y.1 (.inl (S.free y hy hf))
    obtain ⟨cl, ecl, cl1, cl2⟩ := closure_of hcells
    rw [eval_ListComp]
    refine wpAny_comprehension_free (use := none) rfl hs ecl S.kind S.loc (thn (hi pins s σ H _ I h) fun v s1 h1 => thn h1 fun itv s2 h2 => ?_)
    obtain ⟨it, fp, tn, J, H2, e, I2, T, st2, f2, q2⟩ := h2
    subst e
    refine wpAny_newObj_type (wpAny_newFunctionEnv S.nocell (by intro y hy; simp at hy) (fun h₁ hns₁ hsb₁ => ?_) S.kind)
    dsimp only at hns₁ hsb₁ ⊢
    generalize hP2 : s2.heap.push { cls := .type "list", dict := none, data := .seq ([] : List Value).toArray } = P2 at hns₁ hsb₁ ⊢
    have hC : P2.objs.size = s2.heap.objs.size + 1 := by rw [← hP2, Heap.size_push]
    have below : ∀ b, b < s2.heap.objs.size → b ≠ P2.objs.size ∧ b ≠ s2.heap.objs.size := fun b hb => ⟨by rw [hC]; exact Nat.ne_of_lt (Nat.lt_succ_of_lt hb), Nat.ne_of_lt hb⟩
    have hDC : s2.heap.objs.size ≠ P2.objs.size := by rw [hC]; exact Nat.ne_of_lt (Nat.lt_succ_self _)
    have old : ∀ b o, s2.heap.get? b = some o → h₁.get? b = some o := fun b o e => hsb₁.extBut b o (below b (Heap.lt_size e)).1 (Heap.get?_push_of_some _ (hP2 ▸ Heap.get?_push_of_some _ e))
    have hD : h₁.get? s2.heap.objs.size = some { cls := .type "list", dict := none, data := .seq ([] : List Value).toArray } := hsb₁.extBut _ _ hDC (Heap.get?_push_of_some _ (hP2 ▸ Heap.get?_push_size _ rfl))
    have hDn : H2 s2.heap.objs.size = none := I2.hok.fresh (Nat.le_refl _)
    have hCn : H2 P2.objs.size = none := I2.hok.fresh (by rw [hC]; exact Nat.le_succ _)
    obtain ⟨W, ⟨m0, w0⟩, turn⟩ := q2 s2.heap.objs.size _ (same_new hDn (.lst [])) hDn upd_same
    -- the block's context
    have fpl : ∀ b ∈ fp, b < s2.heap.objs.size := fun b hb => by
      obtain ⟨o, e, _⟩ := T.obj 0 _ st2 b hb
      exact Heap.lt_size e
    have yok : (cxComp X N scope cl P2.objs.size s2 H2 fp).Ok :=
      { mod := I2.ok.mod
        kind := S.kind
        glob := I2.ok.glob
        blt := I2.ok.blt
        above := by show s2.heap.objs.size ≤ P2.objs.size; rw [hC]; exact Nat.le_succ _
        inj := fun y z c h1 h2 => I2.ok.inj y z c (cl1 y c h1) (cl1 z c h2)
        has := fun y hy => by
          have hy' : (y, NameKind.free) ∈ scope.names := by
            rcases hy with hy | hy
            · exact relabel_cell (env := X.env) hy (.inl rfl) S.nocell
            · exact relabel_cell (env := X.env) hy (.inr rfl) S.nocell
          exact cl2 y hy'
        cab := fun y c hf _ => by cases hf
        hd := fun hc' => I2.ok.hd hc'
        frames := I2.ok.frames
        stk := .inl rfl
        exf := fun b hb => ⟨(below b (fpl b hb)).1, fun y c e => (f2 b hb).2.2.2.2.1 y c (cl1 y c e)⟩
        bs := I2.bs
        bsz := Nat.le_trans I2.ok.bsz I2.sz
        noex := fun b o e hb => by
          rcases (f2 b hb).2.2.2.1 with z | z
          · exact I2.ok.noex b o e z
          · exact absurd (Nat.lt_of_lt_of_le (Nat.lt_of_lt_of_le (Heap.lt_size e) I2.ok.bsz) z) (Nat.lt_irrefl _)
        exfs := fun b hb hf => by
          rcases List.mem_cons.mp (I2.stkSub b hf) with z | z
          · exact (f2 b hb).2.1 z
          · exact (f2 b hb).2.2.1 z
        funs := I2.stack
        frf := I2.stkFree }
    have hokD : HOk X.prog X.w (upd H2 s2.heap.objs.size (.lst [])) h₁ := I2.hok.laid old (Nat.le_refl _) ⟨Nat.zero_le _, [], 0, .nil, hD⟩
    have I3 : Inv (cxComp X N scope cl P2.objs.size s2 H2 fp) [] (List.replicate nk none ++ caps σ js) (upd H2 s2.heap.objs.size (.lst [])) { s2 with heap := h₁, toks := s2.toks + ([] : List (Str × Value)).length } :=
      { ok := yok
        os := rfl
        bare := I2.bare
        base := Un.laid old (Nat.le_refl _) hDn
        loc := by
          refine ⟨_, hns₁, fun i y v e1 e2 e3 => ?_⟩
          by_cases ik : i < nk
          · rw [List.getElem?_append_left (by simpa using ik), List.getElem?_replicate, if_pos ik] at e2
            cases e2
          · obtain ⟨k, rfl⟩ : ∃ k, i = k + nk := ⟨i - nk, by omega⟩
            have e2' : (caps σ js)[k]? = some (some v) := by
              rw [List.getElem?_append_right (by simp)] at e2
              simpa using e2
            unfold caps at e2'
            rw [List.getElem?_map] at e2'
            cases ej : js[k]? with
            | none => rw [ej] at e2'; cases e2'
            | some j =>
              rw [ej] at e2'
              have e4 : (σ[j]?).join = some v := Option.some.inj e2'
              have e5 : σ[j]? = some (some v) := by
                cases eσ : σ[j]? with
                | none => rw [eσ] at e4; cases e4
                | some o => rw [eσ] at e4; exact congrArg some e4
              obtain ⟨n1, n2, n3, n4⟩ := S.cap k j y e1 ej
              obtain ⟨mX, _, lX⟩ := I2.loc
              obtain ⟨u, ru, lk⟩ := lX j y v n1 e5 n2
              refine ⟨u, ru, ?_⟩
              rcases lk with ⟨lk, _⟩ | ⟨_, c, ec, cell⟩
              · rw [n3] at lk; cases lk
              · obtain ⟨c', ec'⟩ := cl2 y n4
                have : c' = c := Option.some.inj ((cl1 y c' ec').symm.trans ec)
                subst this
                obtain ⟨o, ho, hd⟩ := cell
                refine .inr ⟨?_, c', ec', ⟨o, old _ _ ho, hd⟩⟩
                -- the name is a cell or free in the block
                have e3' : (relabel scope X.env).names.lookup y = some .local ∨ (relabel scope X.env).names.lookup y = some .cell ∨ (relabel scope X.env).names.lookup y = some .free := e3
                rcases e3' with z | z | z
                · exfalso
                  have hm := PySem.mem_of_lookup z
                  obtain ⟨⟨n, k'⟩, hn, e⟩ := List.mem_map.mp hm
                  dsimp only at e
                  by_cases cc : (k' == NameKind.free && X.env.scope.kind == .function && X.env.kindOf n == some .cell) = true
                  · rw [if_pos cc] at e
                    cases e
                  · rw [if_neg cc] at e
                    cases e
                    have l1 := S.loc _ hn rfl
                    have l2 := lookup_relabel_local (env := X.env) l1
                    have f1 := S.free _ n4 rfl
                    exact S.apart y l1 n4
                · exact .inl z
                · exact .inr z
        cell := fun y c e => by
          obtain ⟨v, o, ho, hd⟩ := I2.cell y c (cl1 y c e)
          exact ⟨v, o, old _ _ ho, hd⟩
        free := by show upd H2 s2.heap.objs.size (.lst []) P2.objs.size = none; rw [upd_ne (Ne.symm hDC)]; exact hCn
        freeC := fun y c e => by
          obtain ⟨v, o, ho, hd⟩ := I2.cell y c (cl1 y c e)
          rw [upd_ne (below c (Heap.lt_size ho)).2]
          exact I2.freeC y c (cl1 y c e)
        pin := fun p hp => by simp at hp
        hok := hokD
        len := by show (List.replicate nk none ++ caps σ js).length = N.length; rw [S.len]; simp [caps, Nat.add_comm] }
    have st3 : tn 0 h₁ := T.keep 0 _ _ st2 fun b _ o e => old b o e
    have fr3 : ∀ b ∈ fp, (upd H2 s2.heap.objs.size (.lst [])) b = none := fun b hb => by
      rw [upd_ne (below b (fpl b hb)).2]
      exact (f2 b hb).1
    -- what stays true of the iterator's objects
    have stat : ∀ {H' : Hp}, (∀ b ∈ fp, H' b = none) → ∀ b ∈ fp, FpOk (cxComp X N scope cl P2.objs.size s2 H2 fp) [] H' b := fun hn b hb =>
      ⟨hn b hb, (below b (fpl b hb)).1, yok.exfs b hb, .inl hb, fun y c e => (f2 b hb).2.2.2.2.1 y c (cl1 y c e), fun p hp => by simp at hp⟩
    have pgn : PG (cxComp X N scope cl P2.objs.size s2 H2 fp) tg g := hg cl _ s2 H2 fp fun i x px e1 e2 => pg_name S.nd e1 (.inl (lookup_relabel_local (S.own i x e1 e2))) (.inr (lookup_relabel_local (S.own i x e1 e2)))
    have loop : ∀ s₃ : Shared, s₃ = { s2 with heap := h₁, toks := s2.toks + ([] : List (Str × Value)).length } →
        codeAny (model X.prog X.w) X.A (.compLoop (.ListComp elt [⟨tg, iter, ifs, 0⟩] scope pos) 0 (.ref it) (.ref s2.heap.objs.size) (compEnvC scope cl P2.objs.size X.env))
          (compPost (model X.prog X.w) X.A X.xe none (EP X pins σ Q) (.ref s2.heap.objs.size) P2.objs.size) s₃ := by
      rintro s₃ rfl
      refine codeAny_loop rfl (fun n s' => ∃ i, ∃ o : St, ∃ acc H', o.length = nk ∧ Inv (cxComp X N scope cl P2.objs.size s2 H2 fp) [] (o ++ caps σ js) H' s' ∧ tn i s'.heap ∧ (∀ b ∈ fp, H' b = none) ∧ W i n acc H') ?_ m0 ⟨0, List.replicate nk none, [], _, List.length_replicate, I3, st3, fr3, w0⟩
      rintro n s4 ⟨i, o, acc, H4, ol, I4, st4, fr4, w4⟩
      show wpAny _ X.A ((compTurn (.ListComp elt [⟨tg, iter, ifs, 0⟩] scope pos) 0 (.ref it) (.ref s2.heap.objs.size) (compEnvC scope cl P2.objs.size X.env)).onRaise (fun x => do noteFrame x (compEnvC scope cl P2.objs.size X.env); theTreesLotGoes x)) _ _ s4
      refine wpAny_noted ?_
      rw [compTurn_list]
      refine wpAny_bind (wpAny_standAt (wpAny_bind ?_))
      obtain ⟨hD4, hz4, alt⟩ := turn i n acc H4 w4
      rcases alt with ⟨stop, qn⟩ | ⟨go, step⟩
      · refine thn (T.done (cxComp X N scope cl P2.objs.size s2 H2 fp) rfl rfl rfl hc i [] s4 _ H4 _ I4 (stat fr4) st4 stop) fun r s5 ⟨hr, I5⟩ => ?_
        subst hr
        refine wpAny_pure ?_
        obtain ⟨m5, n5, _⟩ := I5.loc
        refine ⟨m5, n5, fun h' sb => ⟨.ref s2.heap.objs.size, H4, ?_, rfl, qn⟩⟩
        have k5 : ∀ b o, b ≠ P2.objs.size → s5.heap.get? b = some o → h'.get? b = some o := fun b o hb e => sb.extBut b o hb e
        have u5 := I5.base
        have nC : ∀ b o, s2.heap.get? b = some o → b ≠ P2.objs.size := fun b o e => (below b (Heap.lt_size e)).1
        refine I2.call' (s' := { s5 with heap := h' }) (ch := fp) I5.os ?_ ?_ I5.bare fun b hb => ⟨(f2 b hb).2.2.2.1, (f2 b hb).2.1, (f2 b hb).2.2.2.2.1, (f2 b hb).2.2.2.2.2⟩
        · refine ⟨fun b o e n1 n2 n3 => k5 b o (nC b o e) (u5.keep b o e n1 n2 n3), fun b o e n1 n2 n3 => ?_, u5.free, fun b o e n3 => ?_, u5.tups, u5.frzs, u5.tbls⟩
          · obtain ⟨sl, z⟩ := u5.slot b o e n1 n2 n3
            exact ⟨sl, k5 b _ (nC b o e) z⟩
          · obtain ⟨o', z⟩ := u5.there b o e n3
            exact ⟨o', k5 b o' (nC b o e) z⟩
        · intro b u e
          refine (I5.hok b u e).stay (fun c v hc q => k5 c v ?_ q) (fun _ q => q) (fun _ _ q => q) fun _ _ _ q => q
          rintro rfl
          rcases hc with z | z
          · rw [← z, show H4 P2.objs.size = none from I5.free] at e; cases e
          · have := I5.free
            rw [show H4 P2.objs.size = none from I5.free] at z
            cases z
      · refine thn (T.item (cxComp X N scope cl P2.objs.size s2 H2 fp) rfl rfl rfl hc i [] s4 _ H4 _ I4 (stat fr4) st4 go) fun r s5 ⟨u, hr, h5⟩ => ?_
        subst hr
        refine wpAny_bind (thn h5 fun _ s6 ⟨y, H6, I6, r6, y6, st6, fr6⟩ => ?_)
        have I6' := I6.pinned (stat fr6) (T.obj _ _ st6)
        refine wpAny_bind (wpAny_mono (pgn _ s6 (o ++ caps σ js) H6 y u _ I6' r6 (step o ol y _ y6)) (fun _ s7 ⟨σ7, H7, I7, o7, l7, e7, q7⟩ => ?_) fun _ _ z => z.elim)
        subst e7
        have back : ∀ {s9 : Shared} {H9 : Hp} {acc9 : List V} {m9 : Nat}, Inv (cxComp X N scope cl P2.objs.size s2 H2 fp) ([] ++ pinsAt fp s6.heap) (o7 ++ caps σ js) H9 s9 → m9 < n → W (i + 1) m9 acc9 H9 →
            ∃ m, m < n ∧ ∃ i, ∃ o : St, ∃ acc H', o.length = nk ∧ Inv (cxComp X N scope cl P2.objs.size s2 H2 fp) [] (o ++ caps σ js) H' s9 ∧ tn i s9.heap ∧ (∀ b ∈ fp, H' b = none) ∧ W i m acc H' := fun {s9 H9 acc9 m9} I9 hm w9 => by
          refine ⟨m9, hm, i + 1, o7, acc9, H9, l7, I9.unpinned, T.keep _ _ _ st6 fun b hb o e => (I9.pin (b, o) (List.mem_append_right _ (List.mem_append_right _ (mem_pinsAt hb e)))).1, fun b hb => ?_, w9⟩
          obtain ⟨o, e, d⟩ := T.obj _ _ st6 b hb
          exact (I9.pin (b, o) (List.mem_append_right _ (List.mem_append_right _ (mem_pinsAt hb e)))).2.1
        refine wpAny_bind (wpAny_mono (ht cl _ s2 H2 fp _ s7 _ _ _ I7 q7) (fun ok s8 ⟨H8, I8, q8⟩ => ?_) fun _ _ z => z.elim)
        cases ok with
        | false =>
          obtain ⟨m9, hm, w9⟩ := q8
          exact wpAny_pure ⟨rfl, back I8 hm w9⟩
        | true =>
          refine wpAny_bind (wpAny_bind (wpAny_mono (he cl _ s2 H2 fp _ s8 _ _ _ I8 q8) (fun xv s9 ⟨v9, H9, I9, r9, hD9, q9⟩ => ?_) fun _ _ z => z.elim))
          refine wpAny_bind (wpAny_mono (mt_append (X := cxComp X N scope cl P2.objs.size s2 H2 fp) _ s9 _ H9 (.ref s2.heap.objs.size) [v9] (.ref s2.heap.objs.size) [xv] (fun _ H' => H' = upd H9 s2.heap.objs.size (.lst (acc ++ [v9]))) I9 rfl (.cons r9 .nil) ⟨_, acc, v9, rfl, rfl, hD9, hz4, rfl⟩) (fun _ s10 ⟨v10, H10, I10, _, e10⟩ => ?_) fun _ _ z => z.elim)
          subst e10
          obtain ⟨m9, hm, w9⟩ := q9 _ (fun b o hb e => by rw [upd_ne hb]; exact e) upd_same
          exact wpAny_pure (wpAny_pure ⟨rfl, back I10 hm w9⟩)
    exact codeAny_compStart_list (loop _ rfl) (T.self _ 0 _ _ _ st3 (loop _ rfl))
theorem ps_setCT {X : Cx} {iter elt tg : Expr} {nk : Nat} {g : TG} {y : Str} {i : Nat} {py spos : Pos} {ifs : List Expr} {scope : Scope} {pos : Pos} {wi : TI} {N : List Str} {js : List Nat} {tc : TT} {te : TE}
    (hN : X.N.Nodup) (hiN : X.N[i]? = some y) (hyl : X.env.scope.names.lookup y = some .local)
    (hc : X.calm = true) (S : CompScopeN X scope nk N js) (hg : ∀ cl C s₀ H₀ ex, (∀ (i : Nat) (x : Str) (px : Pos), N[i]? = some x → i < nk → PG (cxComp X N scope cl C s₀ H₀ ex) (.Name x px) (gName i)) → PG (cxComp X N scope cl C s₀ H₀ ex) tg g) (hi : PI X tg iter wi)
    (ht : ∀ cl C s₀ H₀ ex, CTests (cxComp X N scope cl C s₀ H₀ ex) ifs tc) (he : ∀ cl C s₀ H₀ ex, PE (cxComp X N scope cl C s₀ H₀ ex) elt te)
    (hsw : swapsWith (.ListComp elt [⟨tg, iter, ifs, 0⟩] scope pos) (some (.Name y py)) spos.line X.env = pure true := by rfl)
    (hs : ∀ x, foldedSetIterable iter X.env x = pure x := by intro _; rfl) :
    PS X (.Assign [.Name y py] (.ListComp elt [⟨tg, iter, ifs, 0⟩] scope pos) spos) (tAsg (tCompT wi nk g js tc te) (gName i)) := by
  with_unfolding_all
    intro pins s σ H DD I h
    have hcells : ∀ y ∈ scope.names, y.2 = .free → ∃ c, X.env.cells.lookup y.1 = some c := fun y hy hf => I.ok.has y.1 (.inl (S.free y hy hf))
    obtain ⟨cl, ecl, cl1, cl2⟩ := closure_of hcells
    rw [exec_Assign_Name_used _ _ _ _ hsw]
    refine wpAny_bind (wpAny_standAt (wpAny_bind ?_))
    show wpAny _ X.A (do let _ ← comprehension (.ListComp elt [⟨tg, iter, ifs, 0⟩] scope pos) scope X.env _ (newList []) false (eval iter X.env) (some (assign (.Name y py) X.env))) _ _ s
    refine wpAny_bind (wpAny_mono (wpAny_comprehension_free (use := some (assign (.Name y py) X.env)) (Q := fun _ s' => SP X pins DD .next s') rfl hs ecl S.kind S.loc (thn (hi pins s σ H _ I h) fun v s1 h1 => thn h1 fun itv s2 h2 => ?_)) (fun _ s' hq => wpAny_pure (wpAny_pure hq)) fun _ _ e => e)
    obtain ⟨it, fp, tn, J, H2, e, I2, T, st2, f2, q2⟩ := h2
    subst e
    refine wpAny_newObj_type (wpAny_newFunctionEnv S.nocell (by intro y hy; simp at hy) (fun h₁ hns₁ hsb₁ => ?_) S.kind)
    dsimp only at hns₁ hsb₁ ⊢
    generalize hP2 : s2.heap.push { cls := .type "list", dict := none, data := .seq ([] : List Value).toArray } = P2 at hns₁ hsb₁ ⊢
    have hC : P2.objs.size = s2.heap.objs.size + 1 := by rw [← hP2, Heap.size_push]
    have below : ∀ b, b < s2.heap.objs.size → b ≠ P2.objs.size ∧ b ≠ s2.heap.objs.size := fun b hb => ⟨by rw [hC]; exact Nat.ne_of_lt (Nat.lt_succ_of_lt hb), Nat.ne_of_lt hb⟩
    have hDC : s2.heap.objs.size ≠ P2.objs.size := by rw [hC]; exact Nat.ne_of_lt (Nat.lt_succ_self _)
    have old : ∀ b o, s2.heap.get? b = some o → h₁.get? b = some o := fun b o e => hsb₁.extBut b o (below b (Heap.lt_size e)).1 (Heap.get?_push_of_some _ (hP2 ▸ Heap.get?_push_of_some _ e))
    have hD : h₁.get? s2.heap.objs.size = some { cls := .type "list", dict := none, data := .seq ([] : List Value).toArray } := hsb₁.extBut _ _ hDC (Heap.get?_push_of_some _ (hP2 ▸ Heap.get?_push_size _ rfl))
    have hDn : H2 s2.heap.objs.size = none := I2.hok.fresh (Nat.le_refl _)
    have hCn : H2 P2.objs.size = none := I2.hok.fresh (by rw [hC]; exact Nat.le_succ _)
    obtain ⟨W, ⟨m0, w0⟩, turn⟩ := q2 s2.heap.objs.size _ (same_new hDn (.lst [])) hDn upd_same
    -- the block's context
    have fpl : ∀ b ∈ fp, b < s2.heap.objs.size := fun b hb => by
      obtain ⟨o, e, _⟩ := T.obj 0 _ st2 b hb
      exact Heap.lt_size e
    have yok : (cxComp X N scope cl P2.objs.size s2 H2 fp).Ok :=
      { mod := I2.ok.mod
        kind := S.kind
        glob := I2.ok.glob
        blt := I2.ok.blt
        above := by show s2.heap.objs.size ≤ P2.objs.size; rw [hC]; exact Nat.le_succ _
        inj := fun y z c h1 h2 => I2.ok.inj y z c (cl1 y c h1) (cl1 z c h2)
        has := fun y hy => by
          have hy' : (y, NameKind.free) ∈ scope.names := by
            rcases hy with hy | hy
            · exact relabel_cell (env := X.env) hy (.inl rfl) S.nocell
            · exact relabel_cell (env := X.env) hy (.inr rfl) S.nocell
          exact cl2 y hy'
        cab := fun y c hf _ => by cases hf
        hd := fun hc' => I2.ok.hd hc'
        frames := I2.ok.frames
        stk := .inl rfl
        exf := fun b hb => ⟨(below b (fpl b hb)).1, fun y c e => (f2 b hb).2.2.2.2.1 y c (cl1 y c e)⟩
        bs := I2.bs
        bsz := Nat.le_trans I2.ok.bsz I2.sz
        noex := fun b o e hb => by
          rcases (f2 b hb).2.2.2.1 with z | z
          · exact I2.ok.noex b o e z
          · exact absurd (Nat.lt_of_lt_of_le (Nat.lt_of_lt_of_le (Heap.lt_size e) I2.ok.bsz) z) (Nat.lt_irrefl _)
        exfs := fun b hb hf => by
          rcases List.mem_cons.mp (I2.stkSub b hf) with z | z
          · exact (f2 b hb).2.1 z
          · exact (f2 b hb).2.2.1 z
        funs := I2.stack
        frf := I2.stkFree }
    have hokD : HOk X.prog X.w (upd H2 s2.heap.objs.size (.lst [])) h₁ := I2.hok.laid old (Nat.le_refl _) ⟨Nat.zero_le _, [], 0, .nil, hD⟩
    have I3 : Inv (cxComp X N scope cl P2.objs.size s2 H2 fp) [] (List.replicate nk none ++ caps σ js) (upd H2 s2.heap.objs.size (.lst [])) { s2 with heap := h₁, toks := s2.toks + ([] : List (Str × Value)).length } :=
      { ok := yok
        os := rfl
        bare := I2.bare
        base := Un.laid old (Nat.le_refl _) hDn
        loc := by
          refine ⟨_, hns₁, fun i y v e1 e2 e3 => ?_⟩
          by_cases ik : i < nk
          · rw [List.getElem?_append_left (by simpa using ik), List.getElem?_replicate, if_pos ik] at e2
            cases e2
          · obtain ⟨k, rfl⟩ : ∃ k, i = k + nk := ⟨i - nk, by omega⟩
            have e2' : (caps σ js)[k]? = some (some v) := by
              rw [List.getElem?_append_right (by simp)] at e2
              simpa using e2
            unfold caps at e2'
            rw [List.getElem?_map] at e2'
            cases ej : js[k]? with
            | none => rw [ej] at e2'; cases e2'
            | some j =>
              rw [ej] at e2'
              have e4 : (σ[j]?).join = some v := Option.some.inj e2'
              have e5 : σ[j]? = some (some v) := by
                cases eσ : σ[j]? with
                | none => rw [eσ] at e4; cases e4
                | some o => rw [eσ] at e4; exact congrArg some e4
              obtain ⟨n1, n2, n3, n4⟩ := S.cap k j y e1 ej
              obtain ⟨mX, _, lX⟩ := I2.loc
              obtain ⟨u, ru, lk⟩ := lX j y v n1 e5 n2
              refine ⟨u, ru, ?_⟩
              rcases lk with ⟨lk, _⟩ | ⟨_, c, ec, cell⟩
              · rw [n3] at lk; cases lk
              · obtain ⟨c', ec'⟩ := cl2 y n4
                have : c' = c := Option.some.inj ((cl1 y c' ec').symm.trans ec)
                subst this
                obtain ⟨o, ho, hd⟩ := cell
                refine .inr ⟨?_, c', ec', ⟨o, old _ _ ho, hd⟩⟩
                -- the name is a cell or free in the block
                have e3' : (relabel scope X.env).names.lookup y = some .local ∨ (relabel scope X.env).names.lookup y = some .cell ∨ (relabel scope X.env).names.lookup y = some .free := e3
                rcases e3' with z | z | z
                · exfalso
                  have hm := PySem.mem_of_lookup z
                  obtain ⟨⟨n, k'⟩, hn, e⟩ := List.mem_map.mp hm
                  dsimp only at e
                  by_cases cc : (k' == NameKind.free && X.env.scope.kind == .function && X.env.kindOf n == some .cell) = true
                  · rw [if_pos cc] at e
                    cases e
                  · rw [if_neg cc] at e
                    cases e
                    have l1 := S.loc _ hn rfl
                    have l2 := lookup_relabel_local (env := X.env) l1
                    have f1 := S.free _ n4 rfl
                    exact S.apart y l1 n4
                · exact .inl z
                · exact .inr z
        cell := fun y c e => by
          obtain ⟨v, o, ho, hd⟩ := I2.cell y c (cl1 y c e)
          exact ⟨v, o, old _ _ ho, hd⟩
        free := by show upd H2 s2.heap.objs.size (.lst []) P2.objs.size = none; rw [upd_ne (Ne.symm hDC)]; exact hCn
        freeC := fun y c e => by
          obtain ⟨v, o, ho, hd⟩ := I2.cell y c (cl1 y c e)
          rw [upd_ne (below c (Heap.lt_size ho)).2]
          exact I2.freeC y c (cl1 y c e)
        pin := fun p hp => by simp at hp
        hok := hokD
        len := by show (List.replicate nk none ++ caps σ js).length = N.length; rw [S.len]; simp [caps, Nat.add_comm] }
    have st3 : tn 0 h₁ := T.keep 0 _ _ st2 fun b _ o e => old b o e
    have fr3 : ∀ b ∈ fp, (upd H2 s2.heap.objs.size (.lst [])) b = none := fun b hb => by
      rw [upd_ne (below b (fpl b hb)).2]
      exact (f2 b hb).1
    -- what stays true of the iterator's objects
    have stat : ∀ {H' : Hp}, (∀ b ∈ fp, H' b = none) → ∀ b ∈ fp, FpOk (cxComp X N scope cl P2.objs.size s2 H2 fp) [] H' b := fun hn b hb =>
      ⟨hn b hb, (below b (fpl b hb)).1, yok.exfs b hb, .inl hb, fun y c e => (f2 b hb).2.2.2.2.1 y c (cl1 y c e), fun p hp => by simp at hp⟩
    have pgn : PG (cxComp X N scope cl P2.objs.size s2 H2 fp) tg g := hg cl _ s2 H2 fp fun i x px e1 e2 => pg_name S.nd e1 (.inl (lookup_relabel_local (S.own i x e1 e2))) (.inr (lookup_relabel_local (S.own i x e1 e2)))
    have loop : ∀ s₃ : Shared, s₃ = { s2 with heap := h₁, toks := s2.toks + ([] : List (Str × Value)).length } →
        codeAny (model X.prog X.w) X.A (.compLoop (.ListComp elt [⟨tg, iter, ifs, 0⟩] scope pos) 0 (.ref it) (.ref s2.heap.objs.size) (compEnvC scope cl P2.objs.size X.env))
          (compPost (model X.prog X.w) X.A X.xe (some (assign (.Name y py) X.env)) (fun _ s' => SP X pins DD .next s') (.ref s2.heap.objs.size) P2.objs.size) s₃ := by
      rintro s₃ rfl
      refine codeAny_loop rfl (fun n s' => ∃ i, ∃ o : St, ∃ acc H', o.length = nk ∧ Inv (cxComp X N scope cl P2.objs.size s2 H2 fp) [] (o ++ caps σ js) H' s' ∧ tn i s'.heap ∧ (∀ b ∈ fp, H' b = none) ∧ W i n acc H') ?_ m0 ⟨0, List.replicate nk none, [], _, List.length_replicate, I3, st3, fr3, w0⟩
      rintro n s4 ⟨i, o, acc, H4, ol, I4, st4, fr4, w4⟩
      show wpAny _ X.A ((compTurn (.ListComp elt [⟨tg, iter, ifs, 0⟩] scope pos) 0 (.ref it) (.ref s2.heap.objs.size) (compEnvC scope cl P2.objs.size X.env)).onRaise (fun x => do noteFrame x (compEnvC scope cl P2.objs.size X.env); theTreesLotGoes x)) _ _ s4
      refine wpAny_noted ?_
      rw [compTurn_list]
      refine wpAny_bind (wpAny_standAt (wpAny_bind ?_))
      obtain ⟨hD4, hz4, alt⟩ := turn i n acc H4 w4
      rcases alt with ⟨stop, qn⟩ | ⟨go, step⟩
      · refine thn (T.done (cxComp X N scope cl P2.objs.size s2 H2 fp) rfl rfl rfl hc i [] s4 _ H4 _ I4 (stat fr4) st4 stop) fun r s5 ⟨hr, I5⟩ => ?_
        subst hr
        refine wpAny_pure ?_
        obtain ⟨m5, n5, _⟩ := I5.loc
        have u5 := I5.base
        have nC : ∀ b o, s2.heap.get? b = some o → b ≠ P2.objs.size := fun b o e => (below b (Heap.lt_size e)).1
        have IX : Inv X pins σ H4 s5 := by
          refine I2.call' (s' := s5) (ch := fp) I5.os ?_ I5.hok I5.bare fun b hb => ⟨(f2 b hb).2.2.2.1, (f2 b hb).2.1, (f2 b hb).2.2.2.2.1, (f2 b hb).2.2.2.2.2⟩
          exact ⟨u5.keep, u5.slot, u5.free, u5.there, u5.tups, u5.frzs, u5.tbls⟩
        obtain ⟨g0, g1, g2, g3, g4, g5⟩ := I2.fpOk (b := P2.objs.size) (H' := H4) (by rw [hC]; exact Nat.le_succ _) I5.free
        refine wpAny_assign_Name (store_ok2 IX hN hiN (.inl hyl) (v := .ref s2.heap.objs.size) rfl (fun s6 I6 ⟨aa, sb6, ha⟩ => ?_) (.inr hyl))
        have hCa : P2.objs.size ≠ aa := by
          rcases ha with rfl | ha
          · exact g1
          · exact fun z => g4 _ _ ha z.symm
        refine ⟨m5, n5.sameBut sb6 hCa, fun h' sb => ⟨_, H4, ?_, qn⟩⟩
        exact I6.turned (t' := s6.toks) (fun b o hb e => sb.extBut b o hb e) g0 g1 g3 g4 g5
      · refine thn (T.item (cxComp X N scope cl P2.objs.size s2 H2 fp) rfl rfl rfl hc i [] s4 _ H4 _ I4 (stat fr4) st4 go) fun r s5 ⟨u, hr, h5⟩ => ?_
        subst hr
        refine wpAny_bind (thn h5 fun _ s6 ⟨y, H6, I6, r6, y6, st6, fr6⟩ => ?_)
        have I6' := I6.pinned (stat fr6) (T.obj _ _ st6)
        refine wpAny_bind (wpAny_mono (pgn _ s6 (o ++ caps σ js) H6 y u _ I6' r6 (step o ol y _ y6)) (fun _ s7 ⟨σ7, H7, I7, o7, l7, e7, q7⟩ => ?_) fun _ _ z => z.elim)
        subst e7
        have back : ∀ {s9 : Shared} {H9 : Hp} {acc9 : List V} {m9 : Nat}, Inv (cxComp X N scope cl P2.objs.size s2 H2 fp) ([] ++ pinsAt fp s6.heap) (o7 ++ caps σ js) H9 s9 → m9 < n → W (i + 1) m9 acc9 H9 →
            ∃ m, m < n ∧ ∃ i, ∃ o : St, ∃ acc H', o.length = nk ∧ Inv (cxComp X N scope cl P2.objs.size s2 H2 fp) [] (o ++ caps σ js) H' s9 ∧ tn i s9.heap ∧ (∀ b ∈ fp, H' b = none) ∧ W i m acc H' := fun {s9 H9 acc9 m9} I9 hm w9 => by
          refine ⟨m9, hm, i + 1, o7, acc9, H9, l7, I9.unpinned, T.keep _ _ _ st6 fun b hb o e => (I9.pin (b, o) (List.mem_append_right _ (List.mem_append_right _ (mem_pinsAt hb e)))).1, fun b hb => ?_, w9⟩
          obtain ⟨o, e, d⟩ := T.obj _ _ st6 b hb
          exact (I9.pin (b, o) (List.mem_append_right _ (List.mem_append_right _ (mem_pinsAt hb e)))).2.1
        refine wpAny_bind (wpAny_mono (ht cl _ s2 H2 fp _ s7 _ _ _ I7 q7) (fun ok s8 ⟨H8, I8, q8⟩ => ?_) fun _ _ z => z.elim)
        cases ok with
        | false =>
          obtain ⟨m9, hm, w9⟩ := q8
          exact wpAny_pure ⟨rfl, back I8 hm w9⟩
        | true =>
          refine wpAny_bind (wpAny_bind (wpAny_mono (he cl _ s2 H2 fp _ s8 _ _ _ I8 q8) (fun xv s9 ⟨v9, H9, I9, r9, hD9, q9⟩ => ?_) fun _ _ z => z.elim))
          refine wpAny_bind (wpAny_mono (mt_append (X := cxComp X N scope cl P2.objs.size s2 H2 fp) _ s9 _ H9 (.ref s2.heap.objs.size) [v9] (.ref s2.heap.objs.size) [xv] (fun _ H' => H' = upd H9 s2.heap.objs.size (.lst (acc ++ [v9]))) I9 rfl (.cons r9 .nil) ⟨_, acc, v9, rfl, rfl, hD9, hz4, rfl⟩) (fun _ s10 ⟨v10, H10, I10, _, e10⟩ => ?_) fun _ _ z => z.elim)
          subst e10
          obtain ⟨m9, hm, w9⟩ := q9 _ (fun b o hb e => by rw [upd_ne hb]; exact e) upd_same
          exact wpAny_pure (wpAny_pure ⟨rfl, back I10 hm w9⟩)
    exact codeAny_compStart_list (loop _ rfl) (T.self _ 0 _ _ _ st3 (loop _ rfl))
end L2

set_option Elab.async false
set_option linter.all false
set_option maxRecDepth 100000
set_option maxHeartbeats 4000000
namespace L2
open PySem PySem.Spec PyProof.Rows
/-! ## the changes, walked turn by turn -/
def Walk (cs : List Cl) (r : Row) : Prop := ∃ b f, b ∈ cs ∧ f ∈ cs ∧ b.n ≠ f.n ∧ ahd f b (r.1 - 1) = true ∧ ahd b f r.1 = true ∧ r.2.1 = b.n ∧ r.2.2 = f.n
structure Betw (cs : List Cl) (t u : Int) (rows : List Row) : Prop where
  srt : rows.Pairwise fun r q => rlt r q = true
  mem : ∀ r : Row, r ∈ rows ↔ (t < r.1 ∧ r.1 ≤ u) ∧ Walk cs r
end L2

set_option Elab.async false
set_option linter.all false
set_option maxRecDepth 100000
set_option maxHeartbeats 4000000
namespace L2
open PySem PySem.Spec PyProof.Rows
section
variable {X : Cx}
def rEqE (K : PySem.W.Frag) : R2 := fun x y H Q => ∃ a b xs, x = .ref a ∧ y = .ref b ∧ SqL K H a xs ∧ SqL K H b [] ∧ Q (.bl xs.isEmpty) H
theorem op_eqE (hu : X.A.units < cLine) : OpR X (compareOp .Eq) (rEqE X.K) := by
  intro pins s σ H x y v u Q I rx ry h
  obtain ⟨a, b, xs, rfl, rfl, hx, hy, q⟩ := h
  cases xs with
  | nil => exact op_eq_lst hu pins s σ H _ _ v u Q I rx ry ⟨a, b, [], [], rfl, rfl, hx, hy, rfl, rfl, q⟩
  | cons z zs =>
    cases rx
    cases ry
    obtain ⟨its, r, pl, hz⟩ := I.list hx
    obtain ⟨its2, r2, pl2, hz2⟩ := I.list hy
    have e1 : its.toArray.size = zs.length + 1 := by simp [← r.length]
    have e2 : its2.toArray.size = 0 := by simp [← r2.length]
    refine SeqAt.eq_list_lengthsAt pl.isList pl2.isList ?_ hu ⟨.bl _, H, I, rfl, q⟩
    rw [e1, e2]
    simp
theorem op_neE (hu : X.A.units < cLine) : OpR X (compareOp .NotEq) (fun x y H Q => ∃ a b xs, x = .ref a ∧ y = .ref b ∧ SqL X.K H a xs ∧ SqL X.K H b [] ∧ Q (.bl (!xs.isEmpty)) H) := by
  intro pins s σ H x y v u Q I rx ry h
  obtain ⟨a, b, xs, rfl, rfl, hx, hy, q⟩ := h
  cases xs with
  | nil => exact op_ne_lst hu pins s σ H _ _ v u Q I rx ry ⟨a, b, [], [], rfl, rfl, hx, hy, rfl, rfl, q⟩
  | cons z zs =>
    cases rx
    cases ry
    obtain ⟨its, r, pl, hz⟩ := I.list hx
    obtain ⟨its2, r2, pl2, hz2⟩ := I.list hy
    have e1 : its.toArray.size = zs.length + 1 := by simp [← r.length]
    have e2 : its2.toArray.size = 0 := by simp [← r2.length]
    refine SeqAt.RcNeAt.lists_lengths pl.isList pl2.isList ?_ hu X.prog X.w X.xe _ ⟨.bl _, H, I, rfl, q⟩
    rw [e1, e2]
    simp
end
theorem comp_tupsG {K : PySem.W.Frag} {a : Addr} {xs : List V} {nk : Nat} {g : TG} {js : List Nat} {tc : TT} {te : TE} {σ : St} {H1 : Hp} {Q : VK} (o : Nat → St) (p : Nat → Bool) (f : Nat → List V) (hl : SqL K H1 a xs) (ho : ∀ i, (o i).length = nk)
    (hg : ∀ i x Hh os (R : St → Hp → Prop), xs[i]? = some x → Same H1 Hh → os.length = nk → R (o i ++ caps σ js) Hh → g x (os ++ caps σ js) Hh R)
    (ht : ∀ i x Hh (Q' : Bool → Hp → Prop), xs[i]? = some x → Same H1 Hh → (∀ Hh', Same Hh Hh' → Q' (p i) Hh') → tc (o i ++ caps σ js) Hh Q')
    (he : ∀ i x Hh (Q' : VK), xs[i]? = some x → p i = true → Same H1 Hh → (∀ b Hh', Same Hh Hh' → Hh' b = some (.tup (f i)) → Q' (.ref b) Hh') → te (o i ++ caps σ js) Hh Q')
    (hz : xs.length < sizeLine) (q : ∀ D H2 (bs : List (Addr × List V)), Same H1 H2 → H1 D = none → H2 D = some (.lst (bs.map fun b => V.ref b.1)) → bs.map (·.2) = ((List.range xs.length).filter p).map f → (∀ b, b ∈ bs → H2 b.1 = some (.tup b.2)) → Q (.ref D) H2) :
    CompGoT (Itl K a) nk g js tc te σ H1 Q := by
  intro D H2 s2 hD h2
  refine ⟨fun i m acc H3 => m = xs.length - i ∧ i ≤ xs.length ∧ ∃ bs : List (Addr × List V), acc = (bs.map fun b => V.ref b.1) ∧ bs.map (·.2) = ((List.range i).filter p).map f ∧ (∀ b, b ∈ bs → H3 b.1 = some (.tup b.2)) ∧ Same H1 H3 ∧ H3 D = some (.lst acc), ⟨_, rfl, Nat.zero_le _, [], rfl, by simp, fun b hb => by simp at hb, s2, h2⟩, ?_⟩
  rintro i m acc H3 ⟨rfl, hi, bs, ea, eb, hb, s3, h3⟩
  have hl3 : SqL K H3 a xs := s3.seq hl
  have hll : acc.length ≤ xs.length := by
    have e := congrArg List.length eb
    rw [List.length_map, List.length_map] at e
    rw [ea, List.length_map, e]
    refine Nat.le_trans (List.length_filter_le _ _) ?_
    rw [List.length_range]
    exact hi
  refine ⟨h3, by omega, ?_⟩
  by_cases hlt : i < xs.length
  · have hx : xs[i]? = some xs[i] := List.getElem?_eq_getElem hlt
    refine .inr ⟨⟨xs, _, hl3, hx⟩, fun os ol y H4 z => ?_⟩
    obtain ⟨e, ey⟩ := z
    have ey2 := ey xs hl3
    subst e
    refine hg i y _ os _ ey2 s3 ol ⟨o i, ho i, rfl, ?_⟩
    refine ht i y _ _ ey2 s3 fun H5 s5 => ?_
    have h5 := s5 _ _ h3
    have s35 := s3.trans s5
    have tk : (List.range (i + 1)).filter p = (List.range i).filter p ++ (if p i = true then [i] else []) := by
      rw [List.range_succ, List.filter_append]
      congr 1
      cases h : p i <;> simp [h]
    cases hp : p i with
    | true =>
      refine iteT (he i y _ _ ey2 hp s35 fun b6 H6 s6 g6 => ⟨s6 _ _ h5, fun H7 k7 h7 => ⟨xs.length - (i + 1), by omega, rfl, hlt, bs ++ [(b6, f i)], ?_, ?_, fun b hb' => ?_, fun b o e => ?_, h7⟩⟩)
      · rw [ea, List.map_append]
        rfl
      · rw [List.map_append, eb, tk, hp, if_pos rfl, List.map_append]
        rfl
      · have nD : ∀ c t, H6 c = some (.tup t) → c ≠ D := fun c t g z => by
          rw [z, s6 _ _ h5] at g
          cases g
        rcases List.mem_append.mp hb' with h | h
        · have g := s6 _ _ (s5 _ _ (hb b h))
          exact k7 _ _ (nD _ _ g) g
        · have : b = (b6, f i) := by simpa using h
          subst this
          exact k7 _ _ (nD _ _ g6) g6
      · by_cases hbD : b = D
        · subst hbD
          rw [hD] at e
          cases e
        · exact k7 b o hbD (s6 b o (s35 b o e))
    | false =>
      refine iteF ⟨xs.length - (i + 1), by omega, rfl, hlt, bs, ea, ?_, fun b hb' => s5 _ _ (hb b hb'), s35, h5⟩
      rw [tk, hp, if_neg Bool.false_ne_true, List.append_nil]
      exact eb
  · have e : i = xs.length := by omega
    subst e
    refine .inl ⟨⟨xs, hl3, Nat.le_refl _⟩, ?_⟩
    rw [ea] at h3
    exact q D _ bs s3 hD h3 eb hb
def sts {α : Type} (k : Nat) (xs : List α) (g : α → List V) (i : Nat) : St := match xs[i]? with
  | some x => (g x).map some
  | none => List.replicate k none
theorem sts_len {α : Type} {k : Nat} {xs : List α} {g : α → List V} (h : ∀ x, (g x).length = k) (i : Nat) : (sts k xs g i).length = k := by
  unfold sts
  cases xs[i]? with
  | none => exact List.length_replicate
  | some x => show ((g x).map some).length = k; rw [List.length_map]; exact h x
theorem len2 {os : St} (h : os.length = 2) : ∃ a b, os = [a, b] := by
  match os, h with
  | [a, b], _ => exact ⟨a, b, rfl⟩
end L2

set_option Elab.async false
set_option linter.all false
set_option maxRecDepth 100000
set_option maxHeartbeats 4000000
namespace L2
open PySem PySem.Spec PyProof.Rows
/-! ## chores: a claim and what is left -/
structure IsCh (K : PySem.W.Frag) (H : Hp) (p : Addr) (x : Cl × Int) : Prop where
  ex : ∃ pc, H p = some (.tup [.ref pc, .int x.2]) ∧ IsCl K H pc x.1
theorem IsCh.same {K : PySem.W.Frag} {H H' : Hp} {p : Addr} {x : Cl × Int} (s : Same H H') (h : IsCh K H p x) : IsCh K H' p x := let ⟨pc, a, b⟩ := h.ex; ⟨pc, s _ _ a, b.same s⟩
theorem IsCh.but {K : PySem.W.Frag} {H H' : Hp} {p q : Addr} {x : Cl × Int} {xs : List V} (s : But q H H') (hq : H q = some (.lst xs)) (h : IsCh K H p x) : IsCh K H' p x := by
  obtain ⟨pc, a, b⟩ := h.ex
  exact ⟨pc, s _ _ (fun z => by rw [z, hq] at a; cases a) a, b.but s hq⟩
structure IsChs (K : PySem.W.Frag) (H : Hp) (l : Addr) (xs : List (Addr × Cl × Int)) : Prop where
  at_ : H l = some (.lst (xs.map fun q => V.ref q.1))
  ch : ∀ q, q ∈ xs → IsCh K H q.1 q.2
theorem IsChs.same {K : PySem.W.Frag} {H H' : Hp} {l : Addr} {xs : List (Addr × Cl × Int)} (s : Same H H') (h : IsChs K H l xs) : IsChs K H' l xs := ⟨s _ _ h.at_, fun q hq => (h.ch q hq).same s⟩
theorem IsChs.but {K : PySem.W.Frag} {H H' : Hp} {l a : Addr} {xs : List (Addr × Cl × Int)} {ys : List V} (s : But a H H') (ha : H a = some (.lst ys)) (ne : l ≠ a) (h : IsChs K H l xs) : IsChs K H' l xs := ⟨s _ _ ne h.at_, fun q hq => (h.ch q hq).but s ha⟩
def kcOf (H : Hp) (p : Addr) : Addr := match H p with
  | some (.tup (.ref pc :: _)) => pc
  | _ => p
theorem IsCh.kc {K : PySem.W.Frag} {H : Hp} {p : Addr} {x : Cl × Int} (h : IsCh K H p x) : H p = some (.tup [.ref (kcOf H p), .int x.2]) ∧ IsCl K H (kcOf H p) x.1 := by
  obtain ⟨pc, a, b⟩ := h.ex
  have e : kcOf H p = pc := by
    unfold kcOf
    rw [a]
  rw [e]
  exact ⟨a, b⟩
structure ChOk (B : Int) (x : Cl × Int) : Prop where
  ok : x.1.Ok
  l0 : 0 ≤ x.2
  l1 : x.2 ≤ 12
  cm : x.1.came ≤ B
end L2

set_option Elab.async false
set_option linter.all false
set_option maxRecDepth 100000
set_option maxHeartbeats 4000000
namespace L2
open PySem PySem.Spec PyProof.Rows
/-! ## turns of work -/
theorem filter_idx {α : Type} (p : α → Bool) : ∀ (L : List α) (h : Nat), (∀ (j : Nat) a, L[j]? = some a → (p a = true ↔ j < h)) → L.filter p = L.take h
  | [], h, _ => by simp
  | a :: L, 0, hp => by
    have h0 := hp 0 a rfl
    rw [List.filter_cons, if_neg (fun z => by have := h0.mp z; omega), filter_idx p L 0 fun j b e => ?_]
    · simp
    · have := hp (j + 1) b e
      constructor
      · intro z
        have := this.mp z
        omega
      · intro z
        omega
  | a :: L, h + 1, hp => by
    have h0 := hp 0 a rfl
    rw [List.filter_cons, if_pos (h0.mpr (by omega)), List.take_succ_cons, filter_idx p L h fun j b e => ?_]
    have := hp (j + 1) b e
    constructor
    · intro z
      have := this.mp z
      omega
    · intro z
      exact this.mpr (by omega)
def rnk (cs : List Cl) (t : Int) (c : Cl) : Nat := (cs.filter fun o => decide (o.n ≠ c.n) && ahd o c t).length
theorem good_ord {cs : List Cl} (g : Good cs) (t : Int) : Good (ord cs t) := ⟨fun c hc => g.ok c ((ord_perm cs t).mem_iff.mp hc), ((ord_perm cs t).map _).nodup_iff.mpr g.nd⟩
theorem rank_ord {cs : List Cl} (g : Good cs) {t : Int} {j : Nat} {c : Cl} (h : (ord cs t)[j]? = some c) : rnk cs t c = j := by
  have jl : j < (ord cs t).length := (List.getElem?_eq_some_iff.mp h).1
  have e := filter_idx (fun o => decide (o.n ≠ c.n) && ahd o c t) (ord cs t) j fun i a hi => by
    rw [Bool.and_eq_true, decide_eq_true_iff]
    constructor
    · rintro ⟨n1, a1⟩
      rcases Nat.lt_trichotomy i j with z | z | z
      · exact z
      · subst z
        rw [h] at hi
        cases hi
        exact (n1 rfl).elim
      · exact (ahd_asymm a1 (srt_lt (ord_srt g t) hi h z)).elim
    · intro z
      exact ⟨nd_ne (good_ord g t) hi h (by omega), srt_lt (ord_srt g t) h hi z⟩
  unfold rnk
  rw [← ((ord_perm cs t).filter _).length_eq, e, List.length_take]
  omega
theorem ord_rank {cs : List Cl} (g : Good cs) (t : Int) {c : Cl} (hc : c ∈ cs) : (ord cs t)[rnk cs t c]? = some c := by
  obtain ⟨j, hj, ej⟩ := List.getElem_of_mem ((ord_perm cs t).mem_iff.mpr hc)
  have e : (ord cs t)[j]? = some c := by rw [List.getElem?_eq_getElem hj, ej]
  rw [rank_ord g e]
  exact e
structure RkD (cs : List Cl) (t : Int) (h i : Nat) (kvs : List (Key × V)) : Prop where
  len : kvs.length = ((cs.take i).filter fun c => decide (rnk cs t c < h)).length
  val : ∀ (k : Nat) c, k < i → cs[k]? = some c → rnk cs t c < h → valV kvs (.inl (rnk cs t c : Int)) = some (.int c.n)
  key : ∀ j : Key, valV kvs j ≠ none → ∃ (k : Nat) (c : Cl), k < i ∧ cs[k]? = some c ∧ j = .inl (rnk cs t c : Int)
/-! ### what is left behind a turn -/
def lessN (ws : List Int) (x : Cl × Int) : Int := if x.1.n ∈ ws then x.2 - 1 else x.2
def behL (H : Hp) (ws : List Int) (xs : List (Addr × Cl × Int)) : List (Addr × Cl × Int) := (xs.map fun k => (kcOf H k.1, k.2.1, lessN ws k.2)).filter fun k => decide (0 < k.2.2)
structure IsBh (H : Hp) (l : Addr) (ys : List (Addr × Cl × Int)) (bs : List (Addr × List V)) : Prop where
  at_ : H l = some (.lst (bs.map fun b => V.ref b.1))
  rw : ∀ b, b ∈ bs → H b.1 = some (.tup b.2)
  eq : bs.map (·.2) = ys.map fun k => [V.ref k.1, V.int k.2.2]
theorem IsBh.same {H H' : Hp} {l : Addr} {ys : List (Addr × Cl × Int)} {bs : List (Addr × List V)} (s : Same H H') (h : IsBh H l ys bs) : IsBh H' l ys bs := ⟨s _ _ h.at_, fun b hb => s _ _ (h.rw b hb), h.eq⟩
theorem IsBh.len {H : Hp} {l : Addr} {ys : List (Addr × Cl × Int)} {bs : List (Addr × List V)} (h : IsBh H l ys bs) : bs.length = ys.length := by
  have := congrArg List.length h.eq
  rw [List.length_map, List.length_map] at this
  exact this
def zipB (bs : List (Addr × List V)) (ys : List (Addr × Cl × Int)) : List (Addr × Cl × Int) := List.zipWith (fun b k => (b.1, k.2)) bs ys
theorem IsBh.chs {K : PySem.W.Frag} {H : Hp} {l : Addr} {ys : List (Addr × Cl × Int)} {bs : List (Addr × List V)} (h : IsBh H l ys bs) (hc : ∀ k, k ∈ ys → IsCl K H k.1 k.2.1) :
    IsChs K H l (zipB bs ys) ∧ (zipB bs ys).map (·.2) = ys.map (·.2) := by
  have hl := h.len
  have e2 : (zipB bs ys).map (·.2) = ys.map (·.2) := by
    unfold zipB
    rw [List.map_zipWith]
    refine List.ext_getElem (by simp [hl]) fun i h1 h2 => ?_
    simp
  have e1 : ((zipB bs ys).map fun q => V.ref q.1) = bs.map fun b => V.ref b.1 := by
    unfold zipB
    rw [List.map_zipWith]
    refine List.ext_getElem (by simp [hl]) fun i h1 h2 => ?_
    simp
  refine ⟨⟨by rw [e1]; exact h.at_, fun q hq => ?_⟩, e2⟩
  obtain ⟨i, hi, ei⟩ := List.getElem_of_mem hq
  have hi2 : i < bs.length ∧ i < ys.length := by
    unfold zipB at hi
    rw [List.length_zipWith] at hi
    omega
  have eq : q = (bs[i].1, ys[i].2) := by
    have e3 : (zipB bs ys)[i]? = some (bs[i].1, ys[i].2) := by
      unfold zipB
      rw [List.getElem?_zipWith, List.getElem?_eq_getElem hi2.1, List.getElem?_eq_getElem hi2.2]
    rw [List.getElem?_eq_getElem hi, ei] at e3
    exact Option.some.inj e3
  have eb : bs[i].2 = [V.ref ys[i].1, V.int ys[i].2.2] := by
    have := congrArg (fun l : List (List V) => l[i]?) h.eq
    simp [hi2.1, hi2.2] at this
    exact this
  have hb := h.rw _ (List.getElem_mem hi2.1)
  rw [eb] at hb
  subst eq
  exact ⟨ys[i].1, hb, hc _ (List.getElem_mem hi2.2)⟩
end L2
namespace L2
open PySem PySem.Spec PyProof.Rows
theorem op_inK {X : Cx} {K : PySem.W.Frag} (hK : X.K = K) : OpR X (compareOp .In) (rIn K false) := hK ▸ op_in_seq
theorem Room.units1 {k : Nat} {A : Around} (r : Room k A) : A.units + 1 < cLine := by have := r.un; omega
theorem kc_same {K : PySem.W.Frag} {H H' : Hp} {p : Addr} {x : Cl × Int} (h : IsCh K H p x) (s : Same H H') : kcOf H' p = kcOf H p := by
  obtain ⟨pc, a, _⟩ := h.ex
  unfold kcOf
  rw [a, s _ _ a]
theorem behL_same {K : PySem.W.Frag} {H H' : Hp} {l : Addr} {xs : List (Addr × Cl × Int)} (h : IsChs K H l xs) (s : Same H H') (ws : List Int) : behL H' ws xs = behL H ws xs := by
  unfold behL
  congr 1
  exact List.map_congr_left fun k hk => by rw [kc_same (h.ch k hk) s]
def isThere (t : Int) (k : Addr × Cl × Int) : Bool := decide (0 < k.2.2) && decide (k.2.1.came ≤ t)
def thereL (H : Hp) (t : Int) (xs : List (Addr × Cl × Int)) : List (Addr × Cl) := (xs.filter (isThere t)).map fun k => (kcOf H k.1, k.2.1)
def csOf (t : Int) (xs : List (Addr × Cl × Int)) : List Cl := (xs.filter (isThere t)).map (·.2.1)
theorem thereL_cs (H : Hp) (t : Int) (xs : List (Addr × Cl × Int)) : (thereL H t xs).map (·.2) = csOf t xs := by
  unfold thereL csOf
  rw [List.map_map]
  rfl
def workL (t : Int) (h : Nat) (xs : List (Addr × Cl × Int)) : List Int := ((ord (csOf t xs) t).map (·.n)).take h
theorem csOf_good {t : Int} {xs : List (Addr × Cl × Int)} (ok : ∀ q, q ∈ xs → q.2.1.Ok) (nd : (xs.map (·.2.1.n)).Nodup) : Good (csOf t xs) := by
  refine ⟨fun c hc => ?_, ?_⟩
  · obtain ⟨k, hk, rfl⟩ := List.mem_map.mp hc
    exact ok k (List.mem_filter.mp hk).1
  · unfold csOf
    rw [List.map_map]
    exact nd.sublist (List.Sublist.map _ List.filter_sublist)
theorem thereL_len (H : Hp) (t : Int) (xs : List (Addr × Cl × Int)) : (thereL H t xs).length ≤ xs.length := by
  unfold thereL
  rw [List.length_map]
  exact List.length_filter_le _ _
theorem thereL_cl {K : PySem.W.Frag} {H : Hp} {l : Addr} {xs : List (Addr × Cl × Int)} (h : IsChs K H l xs) (t : Int) {q : Addr × Cl} (hq : q ∈ thereL H t xs) : IsCl K H q.1 q.2 := by
  obtain ⟨k, hk, rfl⟩ := List.mem_map.mp hq
  exact (h.ch k (List.mem_filter.mp hk).1).kc.2
theorem thereL_refs (H : Hp) (t : Int) (xs : List (Addr × Cl × Int)) : (thereL H t xs).map (fun q => V.ref q.1) = (xs.filter (isThere t)).map fun k => V.ref (kcOf H k.1) := by
  unfold thereL
  rw [List.map_map]
  rfl
theorem behL_mem {H : Hp} {ws : List Int} {xs : List (Addr × Cl × Int)} {k : Addr × Cl × Int} (h : k ∈ behL H ws xs) : ∃ q, q ∈ xs ∧ k = (kcOf H q.1, q.2.1, lessN ws q.2) ∧ 0 < lessN ws q.2 := by
  obtain ⟨h1, h2⟩ := List.mem_filter.mp h
  obtain ⟨q, hq, rfl⟩ := List.mem_map.mp h1
  exact ⟨q, hq, rfl, of_decide_eq_true h2⟩
theorem behL_nd {H : Hp} {ws : List Int} {xs : List (Addr × Cl × Int)} (nd : (xs.map (·.2.1.n)).Nodup) : ((behL H ws xs).map (·.2.1.n)).Nodup := by
  have e : ((xs.map fun k => (kcOf H k.1, k.2.1, lessN ws k.2)).map (·.2.1.n)) = xs.map (·.2.1.n) := by
    rw [List.map_map]
    rfl
  rw [← e] at nd
  exact nd.sublist (List.Sublist.map _ List.filter_sublist)
theorem behL_len (H : Hp) (ws : List Int) (xs : List (Addr × Cl × Int)) : (behL H ws xs).length ≤ xs.length := by
  have := List.length_filter_le (fun k : Addr × Cl × Int => decide (0 < k.2.2)) (xs.map fun k => (kcOf H k.1, k.2.1, lessN ws k.2))
  rw [List.length_map] at this
  exact this
end L2
namespace L2
open PySem PySem.Spec PyProof.Rows
def plV : List V → Bool
  | [_, .int i] => decide (0 < i)
  | _ => false
theorem bh_eq {H : Hp} {ws : List Int} {xs : List (Addr × Cl × Int)} {bs : List (Addr × List V)} (eb : bs.map (·.2) = xs.map fun k => [V.ref (kcOf H k.1), V.int (lessN ws k.2)]) :
    (bs.filter fun b => plV b.2).map (·.2) = (behL H ws xs).map fun k => [V.ref k.1, V.int k.2.2] := by
  have e : (bs.filter fun b => plV b.2).map (·.2) = (bs.map (·.2)).filter plV := by
    rw [List.filter_map]
    rfl
  rw [e, eb, List.filter_map]
  unfold behL
  rw [List.filter_map, List.map_map]
  rfl
theorem fil_true {α : Type} (xs : List α) : (xs.filter fun _ => true) = xs := List.filter_eq_self.mpr fun _ _ => rfl
end L2
namespace L2
open PySem PySem.Spec PyProof.Rows
end L2

set_option Elab.async false
set_option linter.all false
set_option maxRecDepth 100000
set_option maxHeartbeats 4000000
namespace L2
open PySem PySem.Spec PyProof.Rows
/-! ## a def whose last parameter has None as its default -/
structure FunD (K : PySem.W.Frag) (x qual : Str) (st : Stmt) (f : Addr) (fd : FuncData) : Prop where
  ex : ∃ (oc : Value) (od : Option Addr) (T : Addr) (kV doc pm : Value) (an : Option Addr) (cdv ct : Value) (osl : Array (Option Value)) (o : Obj) (n : Nat),
    fd = PySem.W.fnOf x qual (defArgs st) (defBody st) (defScope st) (.ref T) kV doc pm an cdv ct ∧ K.lookup f = some ⟨oc, od, .func fd, osl⟩ ∧ PySem.W.codeIn K cdv qual = true ∧ K.lookup T = some o ∧ o.data = .seq #[.none] n
  kp : PySem.W.keepIn K (.ref f) = true
theorem funD_mk {K : PySem.W.Frag} {x qual : Str} {st : Stmt} {f T : Addr} {oc : Value} {od an : Option Addr} {osl : Array (Option Value)} {kV doc pm cdv ct : Value} {o : Obj} {n : Nat}
    (l : K.lookup f = some ⟨oc, od, .func (PySem.W.fnOf x qual (defArgs st) (defBody st) (defScope st) (.ref T) kV doc pm an cdv ct), osl⟩) (c : PySem.W.codeIn K cdv qual = true) (k : PySem.W.keepIn K (.ref f) = true)
    (t : K.lookup T = some o) (d : o.data = .seq #[.none] n) : FunD K x qual st f (PySem.W.fnOf x qual (defArgs st) (defBody st) (defScope st) (.ref T) kV doc pm an cdv ct) := ⟨⟨oc, od, T, kV, doc, pm, an, cdv, ct, osl, o, n, rfl, l, c, t, d⟩, k⟩
theorem FunD.ok {P : Program} {w : World} {K : PySem.W.Frag} {mg : Str → Option Value} {base : Heap} {x qual : Str} {st : Stmt} {f : Addr} {fd : FuncData} {N ps : List Str} {k : Nat} {sp : Sp} (F : FunD K x qual st f fd) (S : FnScope N ps (defScope st)) (len : ∀ vs H Q E, sp vs H Q E → vs.length = ps.length)
    (hbody : ∀ (cdv : Value) (A : Around) (outer : List Env) (s : Shared) (H : Hp) (vs : List V) (Q : VK) (E : XK), Room k (A.deeper (envOfC qual (defScope st) s.heap.objs.size f cdv)) → sp vs H Q E →
      ∃ t, PSs (cxOf CX0 P w K mg base N qual (defScope st) f cdv A outer s H E).nox (defBody st) t ∧ t { nx := fun _ H' => Q .non H', rt := Q } (start N vs) H) : FnOk P w K mg base CX0 (k + 1) f fd ps sp := by
  obtain ⟨oc, od, T, kV, doc, pm, an, cdv, ct, osl, o, n, rfl, lk, hcd, _, _⟩ := F.ex
  refine fn_of lk hcd S len fun A outer s H vs Q E hr hsp => ?_
  obtain ⟨t, h, q⟩ := hbody cdv A outer s H vs Q E hr hsp
  exact ⟨t, h.nox, q⟩
theorem FunD.binds {K : PySem.W.Frag} {x qual : Str} {st : Stmt} {f : Addr} {fd : FuncData} {ps : List Str} (F : FunD K x qual st f fd)
    (h : ∀ (dV kV doc pm : Value) (an : Option Addr) (cdv ct : Value) (us : List Value), us.length = ps.length → ∃ k : Option (Array Value) → Sem (List (Str × Value)), bindArgs (PySem.W.fnOf x qual (defArgs st) (defBody st) (defScope st) dV kV doc pm an cdv ct) ⟨us, []⟩ = (seqItems? dV >>= k) ∧ k (some #[.none]) = pure (ps.zip us)) : Binds K fd ps [] := by
  obtain ⟨oc, od, T, kV, doc, pm, an, cdv, ct, osl, o, n, rfl, lk, hcd, t, d⟩ := F.ex
  intro s us KX hl
  obtain ⟨k, k1, k2⟩ := h (.ref T) kV doc pm an cdv ct us (by simpa using hl)
  exact BindsTo.of_defaults (T := T) (o := o) (items := #[.none]) (n := n) (k := k) rfl (KX T o t) d k1 (by rw [k2, List.append_nil])
theorem FunD.bindsD {K : PySem.W.Frag} {x qual : Str} {st : Stmt} {f : Addr} {fd : FuncData} {ps : List Str} (F : FunD K x qual st f fd)
    (h : ∀ (dV kV doc pm : Value) (an : Option Addr) (cdv ct : Value) (us : List Value), (us ++ [Value.none]).length = ps.length → ∃ k : Option (Array Value) → Sem (List (Str × Value)), bindArgs (PySem.W.fnOf x qual (defArgs st) (defBody st) (defScope st) dV kV doc pm an cdv ct) ⟨us, []⟩ = (seqItems? dV >>= k) ∧ k (some #[.none]) = pure (ps.zip (us ++ [.none]))) : Binds K fd ps [.none] := by
  obtain ⟨oc, od, T, kV, doc, pm, an, cdv, ct, osl, o, n, rfl, lk, hcd, t, d⟩ := F.ex
  intro s us KX hl
  obtain ⟨k, k1, k2⟩ := h (.ref T) kV doc pm an cdv ct us hl
  exact BindsTo.of_defaults (T := T) (o := o) (items := #[.none]) (n := n) (k := k) rfl (KX T o t) d k1 k2
structure DfnD (K : PySem.W.Frag) (mg : Str → Option Value) (x : Str) (st : Stmt) (ps : List Str) (f : Addr) (fd : FuncData) : Prop where
  F : FunD K x x st f fd
  b : Binds K fd ps []
  bd : Binds K fd ps [.none]
  m : mg x = some (.ref f)
structure CalD (P : Program) (w : World) (K : PySem.W.Frag) (mg : Str → Option Value) (base : Heap) (x : Str) (k : Nat) (ps : List Str) (sp : Sp) : Prop where
  ex : ∃ f fd, FnOk P w K mg base CX0 k f fd ps sp ∧ Binds K fd ps [] ∧ Binds K fd ps [.none] ∧ mg x = some (.ref f) ∧ PySem.W.keepIn K (.ref f) = true
theorem DfnD.cal {P : Program} {w : World} {K : PySem.W.Frag} {mg : Str → Option Value} {base : Heap} {x : Str} {st : Stmt} {ps : List Str} {f : Addr} {fd : FuncData} {k : Nat} {sp : Sp}
    (D : DfnD K mg x st ps f fd) (G : FnOk P w K mg base CX0 k f fd ps sp) : CalD P w K mg base x k ps sp := ⟨⟨f, fd, G, D.b, D.bd, D.m, D.F.kp⟩⟩
section
variable {X : Cx} {k : Nat} {ps : List Str} {sp : Sp} {x : Str} {p pos : Pos} {e : Expr} {es : List Expr} {t : TA}
end
end L2

set_option Elab.async false
set_option linter.all false
set_option maxRecDepth 100000
set_option maxHeartbeats 4000000
namespace L2
open PySem PySem.Spec PyProof.Rows
/-! ## runs, by what the chores hold -/
abbrev Ch := List (Cl × Int)
def csC (t : Int) (c : Ch) : List Cl := (c.filter fun k => decide (0 < k.2) && decide (k.1.came ≤ t)).map (·.1)
def wkC (t : Int) (h : Nat) (c : Ch) : List Int := ((ord (csC t c) t).map (·.n)).take h
def bhC (ws : List Int) (c : Ch) : Ch := (c.map fun k => (k.1, lessN ws k)).filter fun k => decide (0 < k.2)
theorem csOf_C (t : Int) (xs : List (Addr × Cl × Int)) : csOf t xs = csC t (xs.map (·.2)) := by
  unfold csOf csC
  rw [List.filter_map, List.map_map]
  rfl
theorem workL_C (t : Int) (h : Nat) (xs : List (Addr × Cl × Int)) : workL t h xs = wkC t h (xs.map (·.2)) := by
  unfold workL wkC
  rw [csOf_C]
theorem behL_C (H : Hp) (ws : List Int) (xs : List (Addr × Cl × Int)) : (behL H ws xs).map (·.2) = bhC ws (xs.map (·.2)) := by
  unfold behL bhC
  rw [List.filter_map, List.filter_map, List.map_map, List.filter_map, List.map_map]
  rfl
def runN (h : Nat) : Nat → Int → Ch → List (Int × List Int) × Ch
  | 0, _, c => ([], c)
  | n + 1, t, c => let r := runN h n t c; (r.1 ++ [(t + n, wkC (t + n) h r.2)], bhC (wkC (t + n) h r.2) r.2)
def sumC (c : Ch) : Nat := (c.map fun k => k.2.toNat).sum
theorem bhC_pos {ws : List Int} {c : Ch} {k : Cl × Int} (h : k ∈ bhC ws c) : 0 < k.2 := of_decide_eq_true (List.mem_filter.mp h).2
theorem sum_bh (ws : List Int) : ∀ c : Ch, sumC (bhC ws c) ≤ sumC c
  | [] => Nat.le_refl _
  | k :: c => by
    have ih := sum_bh ws c
    have e : bhC ws (k :: c) = (if decide (0 < lessN ws k) = true then [(k.1, lessN ws k)] else []) ++ bhC ws c := by
      unfold bhC
      rw [List.map_cons, List.filter_cons]
      split <;> rfl
    rw [e]
    have le : lessN ws k ≤ k.2 := by
      unfold lessN
      split <;> omega
    unfold sumC at *
    split
    · simp
      omega
    · simp
      omega
theorem sum_lt {ws : List Int} : ∀ {c : Ch} {k : Cl × Int}, k ∈ c → 0 < k.2 → k.1.n ∈ ws → sumC (bhC ws c) < sumC c
  | j :: c, k, hk, pos, hw => by
    have ih := sum_bh ws c
    have e : bhC ws (j :: c) = (if decide (0 < lessN ws j) = true then [(j.1, lessN ws j)] else []) ++ bhC ws c := by
      unfold bhC
      rw [List.map_cons, List.filter_cons]
      split <;> rfl
    rw [e]
    have le : lessN ws j ≤ j.2 := by
      unfold lessN
      split <;> omega
    rcases List.mem_cons.mp hk with rfl | hk
    · have lt : lessN ws k = k.2 - 1 := by
        unfold lessN
        rw [if_pos hw]
      unfold sumC at *
      split
      · simp
        omega
      · simp
        omega
    · have ih2 := sum_lt hk pos hw
      unfold sumC at *
      split
      · simp
        omega
      · simp
        omega
theorem run_down {t : Int} {h : Nat} {c : Ch} (h0 : 0 < h) (hc : c ≠ []) (pos : ∀ k, k ∈ c → 0 < k.2) (cm : ∀ k, k ∈ c → k.1.came ≤ 1000) : sumC (bhC (wkC t h c) c) + (1001 - (t + 1)).toNat < sumC c + (1001 - t).toNat := by
  by_cases e : csC t c = []
  · -- nobody is there yet
    have late : t < 1000 := by
      cases c with
      | nil => exact (hc rfl).elim
      | cons k c =>
        have : k ∉ (k :: c).filter fun k => decide (0 < k.2) && decide (k.1.came ≤ t) := fun z => by
          have : k.1 ∈ csC t (k :: c) := List.mem_map.mpr ⟨k, z, rfl⟩
          rw [e] at this
          cases this
        have p := pos k List.mem_cons_self
        have q := cm k List.mem_cons_self
        refine Int.not_le.mp fun z => this (List.mem_filter.mpr ⟨List.mem_cons_self, ?_⟩)
        rw [decide_eq_true p, decide_eq_true (show k.1.came ≤ t by omega)]
        rfl
    have := sum_bh (wkC t h c) c
    omega
  · have lo : (ord (csC t c) t).length = (csC t c).length := (ord_perm _ _).length_eq
    have lp : 0 < (csC t c).length := List.length_pos_iff.mpr e
    obtain ⟨x, xs, eo⟩ := List.exists_cons_of_ne_nil (show ord (csC t c) t ≠ [] from fun z => by rw [z] at lo; simp at lo; omega)
    have hm : x.n ∈ wkC t h c := by
      unfold wkC
      rw [eo]
      cases h with
      | zero => omega
      | succ h => simp
    have mem : x ∈ csC t c := (ord_perm (csC t c) t).mem_iff.mp (by rw [eo]; exact List.mem_cons_self)
    obtain ⟨k, hk, ek⟩ := List.mem_map.mp mem
    rw [← ek] at hm
    have hk := (List.mem_filter.mp hk).1
    have := sum_lt (ws := wkC t h c) hk (pos k hk) hm
    omega
end L2
namespace L2
open PySem PySem.Spec PyProof.Rows
theorem bhC_nil (c : Ch) : bhC [] c = c.filter fun k => decide (0 < k.2) := by
  unfold bhC
  have e : (c.map fun k => (k.1, lessN [] k)) = c := by
    have : ∀ k : Cl × Int, (k.1, lessN [] k) = k := fun k => by
      unfold lessN
      rw [if_neg (by simp)]
    rw [show (fun k : Cl × Int => (k.1, lessN [] k)) = id from funext this, List.map_id]
  rw [e]
theorem rwN_succ (h n : Nat) (t : Int) (c : Ch) : runN h (n + 1) t c = ((runN h n t c).1 ++ [(t + n, wkC (t + n) h (runN h n t c).2)], bhC (wkC (t + n) h (runN h n t c).2) (runN h n t c).2) := rfl
theorem rwN_len (h : Nat) (t : Int) (c : Ch) : ∀ n, (runN h n t c).1.length = n
  | 0 => rfl
  | n + 1 => by
    rw [rwN_succ, List.length_append, rwN_len h t c n]
    rfl
structure IsRun (H : Hp) (l : Addr) (rs : List (Addr × Addr × Int × List Int)) : Prop where
  at_ : H l = some (.lst (rs.map fun r => V.ref r.1))
  row : ∀ r, r ∈ rs → H r.1 = some (.tup [.int r.2.2.1, .ref r.2.1])
  num : ∀ r, r ∈ rs → H r.2.1 = some (.lst (r.2.2.2.map V.int))
theorem IsRun.same {H H' : Hp} {l : Addr} {rs : List (Addr × Addr × Int × List Int)} (s : Same H H') (h : IsRun H l rs) : IsRun H' l rs := ⟨s _ _ h.at_, fun r hr => s _ _ (h.row r hr), fun r hr => s _ _ (h.num r hr)⟩
theorem IsRun.app {H H' : Hp} {l p m : Addr} {rs : List (Addr × Addr × Int × List Int)} {t : Int} {ws : List Int} (h : IsRun H l rs) (k : But l H H') (e : H' l = some (.lst ((rs.map fun r => V.ref r.1) ++ [.ref p]))) (hp : H p = some (.tup [.int t, .ref m])) (hm : H m = some (.lst (ws.map V.int)))
    (ne : m ≠ l) (nl : ∀ r, r ∈ rs → r.2.1 ≠ l) : IsRun H' l (rs ++ [(p, m, t, ws)]) := by
  have np : ∀ q ys, H q = some (.tup ys) → q ≠ l := fun q ys g z => by
    rw [z, h.at_] at g
    cases g
  refine ⟨by rw [e, List.map_append]; rfl, fun r hr => ?_, fun r hr => ?_⟩
  · rcases List.mem_append.mp hr with hr | hr
    · exact k _ _ (np _ _ (h.row r hr)) (h.row r hr)
    · rw [List.mem_singleton.mp hr]
      exact k _ _ (np _ _ hp) hp
  · rcases List.mem_append.mp hr with hr | hr
    · exact k _ _ (nl r hr) (h.num r hr)
    · rw [List.mem_singleton.mp hr]
      exact k _ _ ne hm
end L2

set_option Elab.async false
set_option linter.all false
set_option maxRecDepth 100000
set_option maxHeartbeats 4000000
namespace L2
open PySem PySem.Spec PyProof.Rows
/-! ## walking the keys of a dict: it is frozen from then on (read, never written) -/
def Itd (a : Addr) (o : Obj) (kvs : List (Key × V)) : It :=
  ⟨fun i H => H a = some (.frz o (.dK kvs)) ∧ i < kvs.length, fun i H x H' => H' = H ∧ ∃ kv, kvs[i]? = some kv ∧ x = kV kv.1, fun i H => H a = some (.frz o (.dK kvs)) ∧ kvs.length ≤ i⟩
theorem key_rel {P : Program} {w : World} {k : Key} {u : Value} (h : (mixKind P w).is k u = true) : RelV (kV k) u := by
  rw [mixKind_is] at h
  cases k with
  | inl i =>
    cases u <;> first
      | (exact absurd h Bool.false_ne_true)
      | (have h : (_ == _) = true := h; rw [beq_iff_eq] at h; subst h; exact ⟨_, rfl⟩)
  | inr x =>
    cases u <;> first
      | (exact absurd h Bool.false_ne_true)
      | (have h : (_ == _) = true := h; rw [beq_iff_eq] at h; subst h; exact ⟨_, rfl⟩)
theorem frz_at {P : Program} {w : World} {H : Hp} {h : Heap} {a : Addr} {o : Obj} {kvs : List (Key × V)} {es : Array DictEntry} {ep : Nat} (ok : HOk P w H h) (e : H a = some (.frz o (.dK kvs))) (d : o.data = .dict es ep) :
    ∃ vs, KV kvs vs ∧ h.DictAt (mixKind P w) a vs ep := by
  obtain ⟨ho, _, _, vs, rel, ob, es', ep', h1, h2, h3, h4⟩ := (show h.get? a = some o ∧ ObjOk P w H h a (.dK kvs) from ok a _ e)
  rw [ho] at h1
  cases h1
  rw [d] at h3
  cases h3
  exact ⟨vs, rel, o, es, ho, h2, d, h4⟩
theorem turn_dict {P : Program} {w : World} {K : PySem.W.Frag} {tg : Expr} (a it : Addr) (o : Obj) (kvs : List (Key × V)) {es : Array DictEntry} {ep : Nat} (d : o.data = .dict es ep) :
    Turn P w K tg (Itd a o kvs) [it] it (fun i h => h.IsKeyIter it a i kvs.length ep) where
  mem := by simp
  obj := fun i h st b hb => by
    have e : b = it := by simpa using hb
    subst e
    obtain ⟨o, e, c, d⟩ := st
    exact ⟨o, e, fun v z => by rw [d] at z; cases z⟩
  keep := fun i h h' st k => st.at fun o e => k it (by simp) o e
  item := by
    intro X hP hw hK hc i pins s σ H E I hf st hg
    subst hP hw hK
    obtain ⟨hq, hi⟩ := hg
    obtain ⟨vs, rel, dd⟩ := frz_at I.hok hq d
    obtain ⟨f0, f1, f2, f3, f4, f5⟩ := hf it (by simp)
    have lv := rel.length
    obtain ⟨⟨k, x⟩, hx⟩ : ∃ p, vs[i]? = some p := ⟨vs[i]'(by omega), List.getElem?_eq_getElem (by omega)⟩
    obtain ⟨⟨k', x'⟩, hx'⟩ : ∃ p, kvs[i]? = some p := ⟨kvs[i]'hi, List.getElem?_eq_getElem hi⟩
    have ek : k' = k := by
      have := congrArg (·[i]?) rel.keys
      simp only [List.getElem?_map, hx, hx', Option.map_some] at this
      exact Option.some.inj this
    subst ek
    rw [lv] at st
    refine wpAny_pyNext_dict_item st dd hx fun key h' hkey st' sb => ?_
    have I1 : Inv X pins σ H { s with heap := h' } := I.turned (t' := s.toks) (fun b o hb e => (sb.2 b hb).trans e) f0 f1 f3 f4 f5
    obtain ⟨o', e, c, d'⟩ := id st'
    rw [← lv] at st'
    exact ⟨key, rfl, go_of (s := { s with heap := h' }) e c d' (by decide) ⟨kV k', H, I1, key_rel hkey, ⟨rfl, _, hx', rfl⟩, st', fun b hb => (hf b hb).1⟩⟩
  done := by
    intro X hP hw hK hc i pins s σ H E I hf st hg
    subst hP hw hK
    obtain ⟨hq, hi⟩ := hg
    obtain ⟨vs, rel, dd⟩ := frz_at I.hok hq d
    obtain ⟨f0, f1, f2, f3, f4, f5⟩ := hf it (by simp)
    have lv := rel.length
    rw [lv] at st
    exact wpAny_pyNext_dict_end (I.ok.hd hc) st dd (List.getElem?_eq_none (by omega)) fun h' eb => ⟨rfl, I.turned (t' := s.toks) (fun b o hb e => eb b o hb e) f0 f1 f3 f4 f5⟩
  self := fun _ _ _ _ _ st h => wpAny_pyIter_keyiter st h
section
variable {X : Cx} {tg : Expr}
def iDict (tl : TE) : TI := fun σ H R => tl σ H fun x H1 => ∃ a kvs, x = .ref a ∧ Rd H1 a (.dK kvs) ∧ ∀ o H2, But a H1 H2 → H2 a = some (.frz o (.dK kvs)) → R (Itd a o kvs) H2
theorem pi_dict {l : Expr} {tl : TE} (hl : PE X l tl) : PI X tg l (iDict tl) := by
  with_unfolding_all
    intro pins s σ H R I h
    refine thn (hl pins s σ H _ I h) fun v s1 ⟨x, H1, I1, r1, q1⟩ => ?_
    obtain ⟨a, kvs, e, hq, q⟩ := q1
    subst e
    cases r1
    obtain ⟨z, y, vs, rel, o, es, ep, ho, oc, od, r⟩ := dk_rd I1.hok hq
    have lv := rel.length
    refine wpAny_pyIter_dict y (show s1.heap.DictAt (mixKind X.prog X.w) a vs ep from ⟨o, es, ho, oc, od, r⟩) ?_
    have I2 : ∃ H2, But a H1 H2 ∧ H2 a = some (.frz o (.dK kvs)) ∧ Inv X pins σ H2 s1 := by
      rcases hq with hq | ⟨o', hq⟩
      · exact ⟨_, fun b u hb e => by rw [upd_ne hb]; exact e, upd_same, I1.write (x := a) (e := a) (o := .frz o (.dK kvs)) (h' := s1.heap) (t' := s1.toks) (by rw [hq]; trivial) (.inl rfl) (fun _ _ _ q => q) ⟨o, ho⟩ ⟨ho, z, y, vs, rel, o, es, ep, ho, oc, od, r⟩⟩
      · obtain ⟨ho', _⟩ := (show s1.heap.get? a = some o' ∧ _ from I1.hok a _ hq)
        rw [ho] at ho'
        cases ho'
        exact ⟨H1, fun _ _ _ e => e, hq, I1⟩
    obtain ⟨H2, k2, h2, I2⟩ := I2
    refine ⟨s1.heap.objs.size, [s1.heap.objs.size], _, _, H2, rfl, I2.kept (t' := s1.toks) fun b o e => Heap.get?_push_of_some _ e, turn_dict a _ o kvs od, ?_, fun b hb => ?_, q o H2 k2 h2⟩
    · show Heap.IsKeyIter _ _ _ _ _ _
      rw [lv]
      exact ⟨_, Heap.get?_push_size _ rfl, rfl, rfl⟩
    · have e : b = s1.heap.objs.size := by simpa using hb
      subst e
      exact I2.fpOk (Nat.le_refl _) (I2.hok.fresh (Nat.le_refl _))
end
theorem comp_dict {a : Addr} {ob : Obj} {kvs : List (Key × V)} {js : List Nat} {tc : TT} {te : TE} {σ : St} {H1 : Hp} {Q : VK} (p : Nat → Bool) (f : Nat → V) (hl : H1 a = some (.frz ob (.dK kvs)))
    (ht : ∀ i kv Hh (Q' : Bool → Hp → Prop), kvs[i]? = some kv → Same H1 Hh → (∀ Hh', Same Hh Hh' → Q' (p i) Hh') → tc (some (kV kv.1) :: caps σ js) Hh Q')
    (he : ∀ i kv Hh (Q' : VK), kvs[i]? = some kv → p i = true → Same H1 Hh → (∀ Hh', Same Hh Hh' → Q' (f i) Hh') → te (some (kV kv.1) :: caps σ js) Hh Q')
    (hz : kvs.length < sizeLine) (q : ∀ D H2, Same H1 H2 → H1 D = none → H2 D = some (.lst (((List.range kvs.length).filter p).map f)) → Q (.ref D) H2) :
    CompGo (Itd a ob kvs) js tc te σ H1 Q := by
  intro D H2 s2 hD h2
  refine ⟨fun i m acc H3 => m = kvs.length - i ∧ i ≤ kvs.length ∧ acc = ((List.range i).filter p).map f ∧ Same H1 H3 ∧ H3 D = some (.lst acc), ⟨_, rfl, Nat.zero_le _, by simp, s2, h2⟩, ?_⟩
  rintro i m acc H3 ⟨rfl, hi, ea, s3, h3⟩
  have hl3 := s3 _ _ hl
  have hll : acc.length ≤ kvs.length := by
    rw [ea, List.length_map]
    refine Nat.le_trans (List.length_filter_le _ _) ?_
    rw [List.length_range]
    exact hi
  refine ⟨h3, by omega, ?_⟩
  by_cases hlt : i < kvs.length
  · refine .inr ⟨⟨hl3, hlt⟩, fun y H4 z => ?_⟩
    obtain ⟨e, kv, ey2, rfl⟩ := z
    subst e
    refine ht i kv _ _ ey2 s3 fun H5 s5 => ?_
    have h5 := s5 _ _ h3
    have s35 := s3.trans s5
    have tk : (List.range (i + 1)).filter p = (List.range i).filter p ++ (if p i = true then [i] else []) := by
      rw [List.range_succ, List.filter_append]
      congr 1
      cases h : p i <;> simp [h]
    cases hp : p i with
    | true =>
      refine iteT (he i kv _ _ ey2 hp s35 fun H6 s6 => ⟨s6 _ _ h5, fun H7 k7 h7 => ⟨kvs.length - (i + 1), by omega, rfl, hlt, ?_, fun b o e => ?_, h7⟩⟩)
      · rw [tk, hp, if_pos rfl, List.map_append, ← ea]
        rfl
      · by_cases hb : b = D
        · subst hb
          rw [hD] at e
          cases e
        · exact k7 b o hb (s6 b o (s35 b o e))
    | false =>
      refine iteF ⟨kvs.length - (i + 1), by omega, rfl, hlt, ?_, s35, h5⟩
      rw [tk, hp, if_neg Bool.false_ne_true, List.append_nil]
      exact ea
  · have e : i = kvs.length := by omega
    subst e
    refine .inl ⟨⟨hl3, Nat.le_refl _⟩, ?_⟩
    rw [ea] at h3
    exact q D _ s3 hD h3
section
variable {X : Cx}
end
end L2

set_option Elab.async false
set_option linter.all false
set_option maxRecDepth 100000
set_option maxHeartbeats 4000000
namespace L2
open PySem PySem.Spec PyProof.Rows
/-! ## dicts from whole numbers to whole numbers; last turns -/
def dI (L : List (Int × Int)) : List (Key × V) := L.map fun p => (.inl p.1, V.int p.2)
def valI (L : List (Int × Int)) (k : Int) : Option Int := (L.find? fun p => decide (p.1 = k)).map (·.2)
def putI (L : List (Int × Int)) (k v : Int) : List (Int × Int) := if (L.any fun p => decide (p.1 = k)) = true then L.map (fun p => if p.1 = k then (p.1, v) else p) else L ++ [(k, v)]
theorem dI_val (L : List (Int × Int)) (k : Int) : valV (dI L) (.inl k) = (valI L k).map V.int := by
  induction L with
  | nil => rfl
  | cons p L ih =>
    unfold dI valI at *
    rw [List.map_cons]
    by_cases e : p.1 = k
    · rw [valV_pos (by rw [e]), List.find?_cons_of_pos (by simp [e])]
      rfl
    · rw [valV_neg (fun z => e (Sum.inl.inj z)), List.find?_cons_of_neg (by simp [e])]
      exact ih
theorem dI_any (L : List (Int × Int)) (k : Int) : ((dI L).any fun kv => decide (kv.1 = .inl k)) = L.any fun p => decide (p.1 = k) := by
  induction L with
  | nil => rfl
  | cons p L ih =>
    unfold dI at *
    rw [List.map_cons, List.any_cons, List.any_cons, ih]
    congr 1
    by_cases e : p.1 = k
    · simp [e]
    · rw [decide_eq_false e]
      exact decide_eq_false fun z => e (Sum.inl.inj z)
theorem dI_put (L : List (Int × Int)) (k v : Int) : putK (dI L) (.inl k) (.int v) = dI (putI L k v) := by
  unfold putK putI
  rw [dI_any]
  by_cases c : (L.any fun p => decide (p.1 = k)) = true
  · rw [if_pos c, if_pos c]
    unfold dI
    rw [List.map_map, List.map_map]
    refine List.map_congr_left fun p _ => ?_
    show (if (Sum.inl p.1 : Key) = .inl k then _ else _) = _
    by_cases e : p.1 = k
    · rw [if_pos (by rw [e])]
      show _ = (fun q : Int × Int => ((Sum.inl q.1 : Key), V.int q.2)) (if p.1 = k then (p.1, v) else p)
      rw [if_pos e]
    · rw [if_neg (fun z => e (Sum.inl.inj z))]
      show _ = (fun q : Int × Int => ((Sum.inl q.1 : Key), V.int q.2)) (if p.1 = k then (p.1, v) else p)
      rw [if_neg e]
  · rw [if_neg c, if_neg c]
    unfold dI
    rw [List.map_append]
    rfl
theorem dI_len (L : List (Int × Int)) : (dI L).length = L.length := List.length_map _
theorem putI_len (L : List (Int × Int)) (k v : Int) : (putI L k v).length ≤ L.length + 1 := by
  unfold putI
  split
  · rw [List.length_map]
    omega
  · rw [List.length_append]
    exact Nat.le_refl _
theorem dget_I {H : Hp} {a : Addr} {L : List (Int × Int)} (h : Rd H a (.dK (dI L))) (k : Int) : DGet H a (.int k) ((valI L k).map V.int) := .inl ⟨_, .inl k, h, rfl, (dI_val L k).symm⟩
theorem Rd.same {H H' : Hp} {a : Addr} {u : HO} (s : Same H H') (h : Rd H a u) : Rd H' a u := h.imp (s _ _) fun ⟨o, e⟩ => ⟨o, s _ _ e⟩
/-! the keys -/
end L2

set_option Elab.async false
set_option linter.all false
set_option maxRecDepth 100000
set_option maxHeartbeats 4000000
namespace L2
open PySem PySem.Spec PyProof.Rows
/-! ## dict(d), and == of dicts of whole numbers -/
section
variable {X : Cx} {pins : List (Addr × Obj)} {σ : St} {H : Hp} {s : Shared}
end
section
variable {X : Cx}
end
end L2

set_option Elab.async false
set_option linter.all false
set_option maxRecDepth 100000
set_option maxHeartbeats 4000000
namespace L2
open PySem PySem.Spec PyProof.Rows
/-! ## histories with less work and more hands: nobody is later -/
structure GdC (c : Ch) : Prop where
  ok : ∀ k, k ∈ c → k.1.Ok
  nd : (c.map (·.1.n)).Nodup
theorem bhC_mem {ws : List Int} {c : Ch} {k : Cl × Int} (h : k ∈ bhC ws c) : ∃ j, j ∈ c ∧ k = (j.1, lessN ws j) ∧ 0 < lessN ws j := by
  obtain ⟨h1, h2⟩ := List.mem_filter.mp h
  obtain ⟨j, hj, e⟩ := List.mem_map.mp h1
  subst e
  exact ⟨j, hj, rfl, of_decide_eq_true h2⟩
theorem bhC_keys (ws : List Int) (c : Ch) : ((bhC ws c).map (·.1)).Sublist (c.map (·.1)) := by
  unfold bhC
  have e : (c.map (·.1)) = (c.map fun k => (k.1, lessN ws k)).map (·.1) := by
    rw [List.map_map]
    rfl
  rw [e]
  exact List.filter_sublist.map _
theorem GdC.bh {c : Ch} (g : GdC c) (ws : List Int) : GdC (bhC ws c) := by
  refine ⟨fun k hk => ?_, ?_⟩
  · obtain ⟨j, hj, e, _⟩ := bhC_mem hk
    rw [e]
    exact g.ok j hj
  · have s := (bhC_keys ws c).map (·.n)
    rw [List.map_map, List.map_map] at s
    exact g.nd.sublist s
theorem GdC.good {c : Ch} (g : GdC c) (t : Int) : Good (csC t c) := by
  refine ⟨fun d hd => ?_, ?_⟩
  · obtain ⟨k, hk, rfl⟩ := List.mem_map.mp hd
    exact g.ok k (List.mem_filter.mp hk).1
  · unfold csC
    rw [List.map_map]
    exact g.nd.sublist (List.filter_sublist.map _)
theorem csC_mem {t : Int} {c : Ch} {d : Cl} : d ∈ csC t c ↔ ∃ x : Int, (d, x) ∈ c ∧ 0 < x ∧ d.came ≤ t := by
  unfold csC
  constructor
  · intro h
    obtain ⟨k, hk, rfl⟩ := List.mem_map.mp h
    obtain ⟨h1, h2⟩ := List.mem_filter.mp hk
    rw [Bool.and_eq_true, decide_eq_true_iff, decide_eq_true_iff] at h2
    exact ⟨k.2, h1, h2.1, h2.2⟩
  · rintro ⟨x, h1, h2, h3⟩
    refine List.mem_map.mpr ⟨(d, x), List.mem_filter.mpr ⟨h1, ?_⟩, rfl⟩
    rw [decide_eq_true h2, decide_eq_true h3]
    rfl
theorem wkC_mem {t : Int} {h : Nat} {c : Ch} (g : GdC c) {j : Int} : j ∈ wkC t h c ↔ ∃ d, d ∈ csC t c ∧ d.n = j ∧ rnk (csC t c) t d < h := by
  unfold wkC
  constructor
  · intro hj
    obtain ⟨i, hi, ei⟩ := List.getElem_of_mem hj
    rw [List.length_take, List.length_map] at hi
    have e1 : (((ord (csC t c) t).map (·.n)).take h)[i]? = some j := by
      rw [List.getElem?_eq_getElem (by rw [List.length_take, List.length_map]; exact hi), ei]
    rw [List.getElem?_take, if_pos (by omega), List.getElem?_map] at e1
    cases ed : (ord (csC t c) t)[i]? with
    | none => rw [ed] at e1; cases e1
    | some d =>
      rw [ed] at e1
      refine ⟨d, (ord_perm _ _).mem_iff.mp (List.mem_of_getElem? ed), Option.some.inj e1, ?_⟩
      rw [rank_ord (g.good t) ed]
      omega
  · rintro ⟨d, hd, rfl, hr⟩
    have e := ord_rank (g.good t) t hd
    refine List.mem_of_getElem? (i := rnk (csC t c) t d) ?_
    rw [List.getElem?_take, if_pos hr, List.getElem?_map, e]
    rfl
inductive Hist (h : Nat) (b : Int) (c0 : Ch) : Nat → List (Int × List Int) → Ch → Prop
  | zero : Hist h b c0 0 [] c0
  | succ {n : Nat} {rs : List (Int × List Int)} {c : Ch} {h' : Nat} : Hist h b c0 n rs c → h ≤ h' → Hist h b c0 (n + 1) (rs ++ [(b + n, wkC (b + n) h' c)]) (bhC (wkC (b + n) h' c) c)
theorem gd_run {h : Nat} {b : Int} {d : Ch} (g : GdC d) : ∀ n, GdC (runN h n b d).2
  | 0 => g
  | n + 1 => by
    rw [rwN_succ]
    exact (gd_run g n).bh _
/-! last turns -/
theorem valI_put {L : List (Int × Int)} {k v j : Int} : valI (putI L k v) j = if j = k then some v else valI L j := by
  have h := valV_put (dI L) (.inl k) (.inl j) (V.int v)
  rw [dI_put, dI_val, dI_val] at h
  by_cases e : j = k
  · rw [if_pos (by rw [e])] at h
    rw [if_pos e]
    cases z : valI (putI L k v) j with
    | none => rw [z] at h; cases h
    | some u => rw [z] at h; cases h; rfl
  · rw [if_neg (fun z => e (Sum.inl.inj z))] at h
    rw [if_neg e]
    cases z : valI (putI L k v) j with
    | none =>
      rw [z] at h
      cases y : valI L j with
      | none => rfl
      | some u => rw [y] at h; cases h
    | some w =>
      rw [z] at h
      cases y : valI L j with
      | none => rw [y] at h; cases h
      | some u => rw [y] at h; cases h; rfl
section
variable {X : Cx} {pins : List (Addr × Obj)} {σ : St} {H : Hp} {s : Shared}
end
end L2

set_option Elab.async false
set_option linter.all false
set_option maxRecDepth 100000
set_option maxHeartbeats 4000000
namespace L2
open PySem PySem.Spec PyProof.Rows
/-! ## repr, list(d), d.clear(), d.values(), and a dict that is thawed again -/
theorem paired_get {α β : Type} {F : α → β → Prop} : ∀ {l₁ : List α} {l₂ : List β}, Paired F l₁ l₂ → ∀ {j : Nat} {a : α} {b : β}, l₁[j]? = some a → l₂[j]? = some b → F a b
  | _, _, .nil, j, a, b, h, _ => by simp at h
  | _, _, .cons x r, 0, a, b, h1, h2 => by
    cases h1
    cases h2
    exact x
  | _, _, .cons x r, j + 1, a, b, h1, h2 => paired_get r (j := j) h1 h2
inductive Shw (K : PySem.W.Frag) (H : Hp) : V → Str → Prop
  | non : Shw K H .non "None"
  | bl (b : Bool) : Shw K H (.bl b) (if b then "True" else "False")
  | int (i : Int) (h : i.natAbs.log2 < 1920) : Shw K H (.int i) (toString i)
  | str (x : Str) (h : (reprText x).length ≤ sizeLine) : Shw K H (.str x) (reprText x)
  | lst {a : Addr} (i : Int) (h : SqL K H a [.int i]) (hs : (PyData.list [.int i]).showable = true) (hz : (PyData.list [.int i]).shown.length ≤ sizeLine) : Shw K H (.ref a) (PyData.list [.int i]).shown
  | tup {a : Addr} (i : Int) (h : SqT K H a [.int i]) (hs : (PyData.tuple [.int i]).showable = true) (hz : (PyData.tuple [.int i]).shown.length ≤ sizeLine) : Shw K H (.ref a) (PyData.tuple [.int i]).shown
section
variable {X : Cx}
theorem mt_dvals : MtR X "dict.values" (fun x vs H Q => ∃ a kvs, x = .ref a ∧ vs = [] ∧ H a = some (.dK kvs) ∧ ∀ v H2, Same H H2 → H v = none → H2 v = some (.ext fun h => h.IsValuesView v a) → Q (.ref v) H2) := by
  intro pins s σ H x vs v us Q I rx rv h
  obtain ⟨a, kvs, rfl, rfl, hd, q⟩ := h
  cases rx
  have hus := rv.zero
  subst hus
  obtain ⟨z, y, ws, rel, dd⟩ := dk_of I.hok hd
  have hn : H s.heap.objs.size = none := I.hok.fresh (Nat.le_refl _)
  refine call_meetsIn PySem.F.slot_dict_values dd.typeIs PySem.F.entry_dict_values (PySem.F.args_dict_values_1 _) (meets_dict_values (mixKind X.prog X.w) a y) ⟨⟨ws, dd⟩, ?_⟩
  refine ⟨.ref _, _, I.laid (t' := s.toks) (a := s.heap.objs.size) (o := .ext fun h => h.IsValuesView s.heap.objs.size a) (fun b u e => Heap.get?_push_of_some _ e) (Nat.le_refl _) ⟨⟨_, Heap.get?_push_size _ rfl, rfl, rfl⟩, ⟨_, Heap.get?_push_size _ rfl⟩, fun h1 h2 ⟨o, e, r⟩ k => ⟨o, k o e, r⟩⟩, rfl, q _ _ (same_new hn _) hn upd_same⟩
end
section
variable {X : Cx} {tg : Expr}
end
/-! thawed -/
section
variable {X : Cx}
end
end L2

set_option Elab.async false
set_option linter.all false
set_option maxRecDepth 100000
set_option maxHeartbeats 4000000
namespace L2
open PySem PySem.Spec PyProof.Rows
/-! ## function values: a lambda that is handed on, with the cells that it reads -/
abbrev Cel := Addr × Obj × V
def cellE (p : Cel) : HO := .ext fun h => h.get? p.1 = some p.2.1
structure CellOk (p : Cel) : Prop where
  ex : ∃ u, p.2.1.data = .cell (some u) ∧ RelV p.2.2 u
def trc (H : Hp) : List Cel → Hp
  | [] => H
  | p :: cs => upd (trc H cs) p.1 (cellE p)
def drp (H : Hp) (cs : List Cel) : Hp := fun b => if b ∈ cs.map (·.1) then none else H b
theorem trc_ne {H : Hp} : ∀ {cs : List Cel} {b : Addr}, b ∉ cs.map (·.1) → trc H cs b = H b
  | [], b, _ => rfl
  | p :: cs, b, h => by
    rw [List.map_cons, List.mem_cons, not_or] at h
    show upd (trc H cs) p.1 (cellE p) b = _
    rw [upd_ne h.1, trc_ne h.2]
theorem trc_at {H : Hp} {cs : List Cel} {p : Cel} (nd : (cs.map (·.1)).Nodup) (h : p ∈ cs) : trc H cs p.1 = some (cellE p) := by
  induction cs with
  | nil => cases h
  | cons q cs ih =>
    rw [List.map_cons, List.nodup_cons] at nd
    show upd (trc H cs) q.1 (cellE q) p.1 = _
    by_cases e : p.1 = q.1
    · have ep : p = q := by
        rcases List.mem_cons.mp h with z | z
        · exact z
        · exact (nd.1 (by rw [← e]; exact List.mem_map.mpr ⟨p, z, rfl⟩)).elim
      rw [ep]
      exact upd_same
    · rw [upd_ne e]
      refine ih nd.2 ?_
      rcases List.mem_cons.mp h with z | z
      · exact (e (by rw [z])).elim
      · exact z
theorem drp_at {H : Hp} {cs : List Cel} {b : Addr} (h : b ∈ cs.map (·.1)) : drp H cs b = none := if_pos h
theorem drp_ne {H : Hp} {cs : List Cel} {b : Addr} (h : b ∉ cs.map (·.1)) : drp H cs b = H b := if_neg h
theorem drp_none {H : Hp} {cs : List Cel} {b : Addr} (h : H b = none) : drp H cs b = none := by
  unfold drp
  split
  · rfl
  · exact h
theorem drp_some {H : Hp} {cs : List Cel} {b : Addr} {u : HO} (h : drp H cs b = some u) : b ∉ cs.map (·.1) ∧ H b = some u := by
  unfold drp at h
  split at h
  · cases h
  · next z => exact ⟨z, h⟩
theorem off_cells {H : Hp} {cs : List Cel} {b : Addr} {u : HO} (hc : ∀ p, p ∈ cs → H p.1 = none ∨ ∃ φ, H p.1 = some (.ext φ)) (hu : ∀ φ, u ≠ .ext φ) (e : H b = some u) : b ∉ cs.map (·.1) := fun z => by
  obtain ⟨p, hp, rfl⟩ := List.mem_map.mp z
  rcases hc p hp with h | ⟨φ, h⟩
  · rw [h] at e
    cases e
  · rw [h] at e
    cases e
    exact hu φ rfl
theorem drp_ok {P : Program} {w : World} {H : Hp} {h : Heap} {cs : List Cel} (hc : ∀ p, p ∈ cs → H p.1 = none ∨ ∃ φ, H p.1 = some (.ext φ)) (x : HOk P w H h) : HOk P w (drp H cs) h := fun b u e => by
  obtain ⟨_, e⟩ := drp_some e
  exact (x b u e).stay (fun _ _ _ q => q) (fun c q => by rw [drp_ne (off_cells hc (fun φ z => by cases z) q)]; exact q) (fun c xs q => by rw [drp_ne (off_cells hc (fun φ z => by cases z) q)]; exact q) fun c ob xs q => by rw [drp_ne (off_cells hc (fun φ z => by cases z) q)]; exact q
theorem trc_ok {P : Program} {w : World} {H : Hp} {h : Heap} {cs : List Cel} (nd : (cs.map (·.1)).Nodup) (hc : ∀ p, p ∈ cs → H p.1 = none ∧ h.get? p.1 = some p.2.1) (x : HOk P w H h) : HOk P w (trc H cs) h := fun b u e => by
  by_cases z : b ∈ cs.map (·.1)
  · obtain ⟨p, hp, rfl⟩ := List.mem_map.mp z
    rw [trc_at nd hp] at e
    cases e
    exact ⟨(hc p hp).2, ⟨_, (hc p hp).2⟩, fun h1 h2 e k => k _ e⟩
  · rw [trc_ne z] at e
    have hc' : ∀ p, p ∈ cs → H p.1 = none ∨ ∃ φ, H p.1 = some (.ext φ) := fun p hp => .inl (hc p hp).1
    exact (x b u e).stay (fun _ _ _ q => q) (fun c q => by rw [trc_ne (off_cells hc' (fun φ z => by cases z) q)]; exact q) (fun c xs q => by rw [trc_ne (off_cells hc' (fun φ z => by cases z) q)]; exact q) fun c ob xs q => by rw [trc_ne (off_cells hc' (fun φ z => by cases z) q)]; exact q
theorem same_trc {H : Hp} {cs : List Cel} (h : ∀ p, p ∈ cs → H p.1 = none) : Same H (trc H cs) := fun b o e => by
  rw [trc_ne]
  · exact e
  · intro z
    obtain ⟨p, hp, rfl⟩ := List.mem_map.mp z
    rw [h p hp] at e
    cases e
theorem un_drp {fs : List Addr} {H H' : Hp} {h h' : Heap} {cs : List Cel} (hc : ∀ p, p ∈ cs → H p.1 = none ∧ h.get? p.1 = some p.2.1) (hc' : ∀ p, p ∈ cs → h'.get? p.1 = some p.2.1) (u : Un fs [] (trc H cs) H' h h') : Un fs [] H (drp H' cs) h h' := by
  have hn : ∀ p, p ∈ cs → H p.1 = none ∨ ∃ φ, H p.1 = some (.ext φ) := fun p hp => .inl (hc p hp).1
  refine ⟨fun b o e n hb hx => ?_, fun b o e n hb hx => ?_, fun b o e n hx => ?_, u.there, fun b xs e => ?_, fun b o v e => ?_, fun b lp lq e => ?_⟩
  · by_cases z : b ∈ cs.map (·.1)
    · obtain ⟨p, hp, rfl⟩ := List.mem_map.mp z
      rw [(hc p hp).2] at e
      cases e
      exact hc' p hp
    · exact u.keep b o e (by rw [trc_ne z]; exact n) hb hx
  · by_cases z : b ∈ cs.map (·.1)
    · obtain ⟨p, hp, rfl⟩ := List.mem_map.mp z
      rw [(hc p hp).2] at e
      cases e
      exact ⟨p.2.1.slots, hc' p hp⟩
    · exact u.slot b o e (by rw [trc_ne z]; exact n) hb hx
  · by_cases z : b ∈ cs.map (·.1)
    · exact drp_at z
    · rw [drp_ne z]
      exact u.free b o e (by rw [trc_ne z]; exact n) hx
  · have z := off_cells hn (fun φ z => by cases z) e
    rw [drp_ne z]
    exact u.tups b xs (by rw [trc_ne z]; exact e)
  · have z := off_cells hn (fun φ z => by cases z) e
    rw [drp_ne z]
    exact u.frzs b o v (by rw [trc_ne z]; exact e)
  · have z := off_cells hn (fun φ z => by cases z) e
    rw [drp_ne z]
    exact u.tbls b lp lq (by rw [trc_ne z]; exact e)
theorem un_trc {fs : List Addr} {H H' : Hp} {h h' : Heap} {cs : List Cel} (hc : ∀ p, p ∈ cs → H p.1 = some (cellE p)) (u : Un fs [] (drp H cs) H' h h') : Un fs [] H (trc H' cs) h h' := by
  have hn : ∀ p, p ∈ cs → H p.1 = none ∨ ∃ φ, H p.1 = some (.ext φ) := fun p hp => .inr ⟨_, hc p hp⟩
  have no : ∀ {b : Addr}, H b = none → b ∉ cs.map (·.1) := fun {b} n z => by
    obtain ⟨p, hp, rfl⟩ := List.mem_map.mp z
    rw [hc p hp] at n
    cases n
  refine ⟨fun b o e n hb hx => u.keep b o e (drp_none n) hb hx, fun b o e n hb hx => u.slot b o e (drp_none n) hb hx, fun b o e n hx => ?_, u.there, fun b xs e => ?_, fun b o v e => ?_, fun b lp lq e => ?_⟩
  · rw [trc_ne (no n)]
    exact u.free b o e (drp_none n) hx
  · have z := off_cells hn (fun φ z => by cases z) e
    rw [trc_ne z]
    exact u.tups b xs (by rw [drp_ne z]; exact e)
  · have z := off_cells hn (fun φ z => by cases z) e
    rw [trc_ne z]
    exact u.frzs b o v (by rw [drp_ne z]; exact e)
  · have z := off_cells hn (fun φ z => by cases z) e
    rw [trc_ne z]
    exact u.tbls b lp lq (by rw [drp_ne z]; exact e)
/-! ### a function value -/
structure FnV (P : Program) (w : World) (K : PySem.W.Frag) (mg : Str → Option Value) (base : Heap) (k : Nat) (H : Hp) (f : Addr) (sp : Sp) : Prop where
  obj : ∃ o fd, H f = some (.frz o (.own f)) ∧ o.data = .func fd
  run : ∀ (A : Around) (outer : List Env) (s : Shared) (H1 : Hp) (us : List Value) (vs : List V) (Q : VK), Room k A → Env0 P w K mg base A outer s H1 → Same H H1 → Vals vs us → sp vs H1 Q E0 →
    codeAny (model P w) A (.call (.ref f) ⟨us, []⟩) (fun r s' => ∃ u, r = .ok (.ret u) ∧ CE outer P w H1 s Q u s') s
theorem FnV.same {P : Program} {w : World} {K : PySem.W.Frag} {mg : Str → Option Value} {base : Heap} {k : Nat} {H H' : Hp} {f : Addr} {sp : Sp} (s : Same H H') (F : FnV P w K mg base k H f sp) : FnV P w K mg base k H' f sp :=
  ⟨let ⟨o, fd, e, d⟩ := F.obj; ⟨o, fd, s _ _ e, d⟩, fun A outer s1 H1 us vs Q hr e sm => F.run A outer s1 H1 us vs Q hr e (s.trans sm)⟩
theorem FnV.imp {P : Program} {w : World} {K : PySem.W.Frag} {mg : Str → Option Value} {base : Heap} {k : Nat} {H : Hp} {f : Addr} {sp sp' : Sp} (h : ∀ vs H1 Q, Same H H1 → sp' vs H1 Q E0 → sp vs H1 Q E0) (F : FnV P w K mg base k H f sp) : FnV P w K mg base k H f sp' :=
  ⟨F.obj, fun A outer s1 H1 us vs Q hr e sm r q => F.run A outer s1 H1 us vs Q hr e sm r (h vs H1 Q sm q)⟩
section
variable {X : Cx} {k i : Nat} {x : Str} {p pos : Pos} {e : Expr} {es : List Expr} {t : TA}
def tCalV (X : Cx) (k i : Nat) (t : TA) : TE := fun σ H Q => ∃ f, σ[i]? = some (some (.ref f)) ∧ t σ H fun vs H1 => ∃ sp, FnV X.prog X.w X.K X.mg X.base k H1 f sp ∧ sp vs H1 Q E0
theorem pe_calV (hr : Room k X.A) (ha : PA X (e :: es) t) (hN : X.N[i]? = some x := by rfl) (hv : Vis X.env.scope x := by first | exact Or.inl rfl | exact Or.inr (Or.inl rfl) | exact Or.inr (Or.inr rfl)) (hdb : (x == ("__debug__" : Str)) = false := by decide) (hcd : (x == ("__classdict__" : Str)) = false := by decide)
    (he : starEach (e :: es) X.env = (false, eval e X.env) :: starEach es X.env := by rfl) (hpl : (backTo pos (starEach es X.env)).any (·.1) = false := by rfl) :
    PE X (.Call (.Name x p) (e :: es) [] pos) (tCalV X k i t) := by
  have hvar := pe_var (pos := p) hN hv hdb hcd
  with_unfolding_all
    intro pins s σ H Q I h
    obtain ⟨f, ef, h⟩ := h
    refine wpAny_Call_Name_kw (thn (hvar pins s σ H (fun v H' => v = .ref f ∧ t σ H' fun vs H1 => ∃ sp, FnV X.prog X.w X.K X.mg X.base k H1 f sp ∧ sp vs H1 Q E0) I ⟨.ref f, ef, rfl, h⟩) fun u s1 ⟨v, H1, I1, r1, ev, q1⟩ => ?_)
    subst ev
    cases r1
    rw [he]
    refine PySem.W.callWith_of (P := fun hh => ∃ o fd, hh.get? f = some o ∧ o.data = .func fd) (by show ((false || (backTo pos (starEach es X.env)).any (·.1)) || false) = false; rw [hpl]; rfl) (fun hh ⟨o, fd, e1, e2⟩ => ?_) (Calls.evalArgs_plain ?_)
    · obtain ⟨oc, od, dt, sl⟩ := o
      cases (show dt = .func fd from e2)
      exact ⟨.frame, .inl rfl, (PySem.W.Looks.ld (part := none) e1).andThen .now⟩
    have ha' := ha pos pins s1 σ H1 _ I1 q1
    rw [he] at ha'
    refine thn ha' fun us s2 ⟨vs, H2, I2, rv, sp, F, q2⟩ => ?_
    obtain ⟨o, fd, e1, e2⟩ := F.obj
    refine ⟨⟨o, fd, (I2.hok f _ e1).1, e2⟩, wpAny_call (codeAny_mono (F.run X.A X.stack s2 H2 us vs Q hr I2.env0 (Same.refl _) rv q2) fun r s' ⟨u, er, ce⟩ => ?_)⟩
    subst er
    exact I2.after ce
end
/-! ### a lambda's body, called from anywhere -/
abbrev cxV (P : Program) (w : World) (K : PySem.W.Frag) (mg : Str → Option Value) (base : Heap) (N : List Str) (scope : Scope) (cl : List (Str × Addr)) (q : Str) (f : Addr) (cd : Value) (A : Around) (outer : List Env) (s₀ : Shared) (H₀ : Hp) : Cx where
  prog := P
  w := w
  K := K
  mg := mg
  base := base
  A := A.deeper (newEnv scope s₀.heap.objs.size mainGlobals cl (q ++ ".<locals>.") (some f) cd none builtinsNs)
  N := N
  s₀ := s₀
  H₀ := H₀
  env := newEnv scope s₀.heap.objs.size mainGlobals cl (q ++ ".<locals>.") (some f) cd none builtinsNs
  outer := outer
  stack := newEnv scope s₀.heap.objs.size mainGlobals cl (q ++ ".<locals>.") (some f) cd none builtinsNs :: outer
  ex := []
  fn := fun _ => false
  calm := true
  pn := []
  xe := fun _ _ => False
structure LScope (scope : Scope) (x : Str) (N : List Str) : Prop where
  kind : scope.kind = .function
  nocell : ∀ y ∈ scope.names, y.2 ≠ .cell
  own : scope.names.lookup x = some .local
  head : N[0]? = some x
  apart : ∀ y, scope.names.lookup y = some .local → (y, NameKind.free) ∉ scope.names
structure CloV (H : Hp) (q : Str) (ar : Arguments) (body : Expr) (scope : Scope) (f : Addr) (cl : List (Str × Addr)) (N : List Str) (cs : List Cel) : Prop where
  ex : ∃ pm c ct oc us t o, H f = some (.frz o (.own f)) ∧ o.data = .func (PySem.W.kla_fn "<lambda>" q ar body scope cl pm (.ref c) ct) ∧ H c = some (.frz oc (.own c)) ∧ oc.data = .fields us ∧ us[1]? = some (.str q t)
  inj : ∀ y z c, cl.lookup y = some c → cl.lookup z = some c → y = z
  has : ∀ x, (x, NameKind.free) ∈ scope.names → ∃ c, cl.lookup x = some c
  cov : ∀ x c, cl.lookup x = some c → ∃ p, p ∈ cs ∧ p.1 = c
  len : N.length = cs.length + 1
  cap : ∀ (k : Nat) (p : Cel) (y : Str), N[k + 1]? = some y → cs[k]? = some p → cl.lookup y = some p.1 ∧ (y, NameKind.free) ∈ scope.names
  cel : ∀ p, p ∈ cs → H p.1 = some (cellE p) ∧ CellOk p
  nd : (cs.map (·.1)).Nodup
theorem CloV.same {H H' : Hp} {q : Str} {ar : Arguments} {body : Expr} {scope : Scope} {f : Addr} {cl : List (Str × Addr)} {N : List Str} {cs : List Cel} (s : Same H H') (C : CloV H q ar body scope f cl N cs) : CloV H' q ar body scope f cl N cs := by
  obtain ⟨pm, c, ct, oc, us, t, o, e1, e2, e3, e4⟩ := C.ex
  exact ⟨⟨pm, c, ct, oc, us, t, o, s _ _ e1, e2, s _ _ e3, e4⟩, C.inj, C.has, C.cov, C.len, C.cap, fun p hp => ⟨s _ _ (C.cel p hp).1, (C.cel p hp).2⟩, C.nd⟩
theorem clo_run {P : Program} {w : World} {K : PySem.W.Frag} {mg : Str → Option Value} {base : Heap} {A : Around} {outer : List Env} {s : Shared} {H : Hp} {q : Str} {ar : Arguments} {body : Expr} {scope : Scope} {x : Str} {f : Addr} {cl : List (Str × Addr)} {N : List Str} {cs : List Cel} {te : TE} {v : V} {u : Value} {Q : VK}
    (e0 : Env0 P w K mg base A outer s H) (S : LScope scope x N) (C : CloV H q ar body scope f cl N cs) (hh : A.handled = none) (hdp : A.depth < recursionLimit) (co : scope.isCoroutine = false) (ge : scope.isGenerator = false)
    (hb : ∀ pm c ct u, bindArgs (PySem.W.kla_fn "<lambda>" q ar body scope cl pm c ct) ⟨[u], []⟩ = pure [(x, u)])
    (he : ∀ cd, PE (cxV P w K mg base N scope cl q f cd A outer s (drp H cs)) body te) (rv : RelV v u) (hq : te (some v :: cs.map fun p => some p.2.2) (drp H cs) fun r H' => Q r (trc H' cs)) :
    codeAny (model P w) A (.call (.ref f) ⟨[u], []⟩) (fun r s' => ∃ k, r = .ok (.ret k) ∧ CE outer P w H s Q k s') s := by
  with_unfolding_all
    obtain ⟨pm, c, ct, oc, us, t, o, e1, e2, e3, e4, e5⟩ := C.ex
    obtain ⟨g1, _⟩ := e0.hok f _ e1
    obtain ⟨g2, _⟩ := e0.hok c _ e3
    have gc : ∀ p, p ∈ cs → s.heap.get? p.1 = some p.2.1 := fun p hp => (e0.hok p.1 _ (C.cel p hp).1).1
    have hn : ∀ p, p ∈ cs → H p.1 = none ∨ ∃ φ, H p.1 = some (.ext φ) := fun p hp => .inr ⟨_, (C.cel p hp).1⟩
    have lim : s.heap.NoLimit := e0.mod.nolimit.keeps fun b o e => (e0.bs b o e).1
    refine PySem.W.kla_callFunE hdp g1 e2 co ge rfl ⟨c, oc, us, t, rfl, g2, e4, e5⟩ ?_
    rw [hb]
    refine wpAny_pure (wpAny_newFunctionEnv S.nocell (fun y hy => ?_) (fun h₁ hns hsb => ?_) S.kind)
    · have hy' : y = (x, u) := by simpa using hy
      subst hy'
      exact S.own
    have old : ∀ b o, s.heap.get? b = some o → h₁.get? b = some o := fun b o e => hsb.extBut b o (Nat.ne_of_lt (Heap.lt_size e)) (Heap.get?_push_of_some _ e)
    refine ⟨lim.keeps old, ?_⟩
    have hokD : HOk P w (drp H cs) s.heap := drp_ok hn e0.hok
    have yok : (cxV P w K mg base N scope cl q f (.ref c) A outer s (drp H cs)).Ok :=
      { mod := e0.mod
        kind := S.kind
        glob := rfl
        blt := rfl
        above := Nat.le_refl _
        inj := C.inj
        has := fun y hy => by
          rcases hy with hy | hy
          · exact absurd rfl (S.nocell _ (PySem.mem_of_lookup hy))
          · exact C.has y (PySem.mem_of_lookup hy)
        cab := fun y c hf _ => by cases hf
        hd := fun _ => hh
        frames := Around.frames_deeper e0.frames
        stk := .inr ⟨rfl, rfl⟩
        exf := fun b hb => by simp at hb
        bs := fun b o e => ⟨(e0.bs b o e).1, drp_none (e0.bs b o e).2⟩
        bsz := e0.bsz
        noex := fun b o e hb => by simp at hb
        exfs := fun b hb => by simp at hb
        funs := e0.funs
        frf := fun b hb => drp_none (e0.frf b hb) }
    have I1 : Inv (cxV P w K mg base N scope cl q f (.ref c) A outer s (drp H cs)) [] (some v :: cs.map fun p => some p.2.2) (drp H cs) { s with heap := h₁, toks := s.toks + [(x, u)].length } :=
      { ok := yok
        os := rfl
        bare := e0.bare
        base := Un.kept old
        loc := by
          refine ⟨_, hns, fun i y v' h1 h2 h3 => ?_⟩
          cases i with
          | zero =>
            have ey : y = x := Option.some.inj (h1.symm.trans S.head)
            subst ey
            have ev : v' = v := by simpa using h2.symm
            subst ev
            exact ⟨u, rv, .inl ⟨S.own, by simp⟩⟩
          | succ k =>
            have h2' : (cs.map fun p => some p.2.2)[k]? = some (some v') := by simpa using h2
            rw [List.getElem?_map] at h2'
            cases ep : cs[k]? with
            | none => rw [ep] at h2'; cases h2'
            | some p =>
              rw [ep] at h2'
              have ev : p.2.2 = v' := by
                have := Option.some.inj h2'
                exact Option.some.inj this
              subst ev
              have hp := List.mem_of_getElem? ep
              obtain ⟨c1, c2⟩ := C.cap k p y h1 ep
              obtain ⟨u', d1, ru⟩ := (C.cel p hp).2.ex
              refine ⟨u', ru, .inr ⟨?_, p.1, c1, ⟨p.2.1, old _ _ (gc p hp), d1⟩⟩⟩
              have h3' : scope.names.lookup y = some .local ∨ scope.names.lookup y = some .cell ∨ scope.names.lookup y = some .free := h3
              rcases h3' with z | z | z
              · exact absurd c2 (S.apart y z)
              · exact .inl z
              · exact .inr z
        cell := fun y d e => by
          obtain ⟨p, hp, ep⟩ := C.cov y d e
          obtain ⟨u', d1, ru⟩ := (C.cel p hp).2.ex
          exact ⟨some u', p.2.1, by rw [← ep]; exact old _ _ (gc p hp), d1⟩
        free := hokD.fresh (Nat.le_refl _)
        freeC := fun y d e => by
          obtain ⟨p, hp, ep⟩ := C.cov y d e
          rw [← ep]
          exact drp_at (List.mem_map.mpr ⟨p, hp, rfl⟩)
        pin := fun p hp => by simp at hp
        hok := hokD.kept old
        len := by show (some v :: cs.map fun p => some p.2.2).length = N.length; rw [C.len]; simp }
    refine PySem.W.kla_codeExpr (wpAny_mono (he (.ref c) [] _ _ (drp H cs) _ I1 hq) (fun k s' hk => ?_) fun _ _ z => z.elim)
    obtain ⟨r, H', J, rk, qk⟩ := hk
    have un : Un (frs outer) [] H (trc H' cs) s.heap s'.heap := un_trc (fun p hp => (C.cel p hp).1) J.base
    have nf : ∀ p, p ∈ cs → p.1 ∉ frs outer := fun p hp z => by
      have := e0.frf p.1 z
      rw [(C.cel p hp).1] at this
      cases this
    refine ⟨k, rfl, r, trc H' cs, J.os, J.bare, un, trc_ok C.nd (fun p hp => ⟨?_, ?_⟩) J.hok, rk, qk⟩
    · exact J.base.free p.1 p.2.1 (gc p hp) (drp_at (List.mem_map.mpr ⟨p, hp, rfl⟩)) (by simp)
    · exact J.base.keep p.1 p.2.1 (gc p hp) (drp_at (List.mem_map.mpr ⟨p, hp, rfl⟩)) (nf p hp) (by simp)
/-! ### a lambda made as an argument, the call with its cells tracked -/
theorem list_choice {α : Type} (R : Nat → α → Prop) : ∀ n, (∀ k, k < n → ∃ a, R k a) → ∃ l : List α, l.length = n ∧ ∀ k a, l[k]? = some a → R k a
  | 0, _ => ⟨[], rfl, fun k a h => by simp at h⟩
  | n + 1, h => by
    obtain ⟨l, e, r⟩ := list_choice R n fun k hk => h k (by omega)
    obtain ⟨a, ha⟩ := h n (by omega)
    refine ⟨l ++ [a], by rw [List.length_append, e]; rfl, fun k b hb => ?_⟩
    by_cases z : k < n
    · rw [List.getElem?_append_left (by omega)] at hb
      exact r k b hb
    · rw [List.getElem?_append_right (by omega), e] at hb
      cases y : k - n with
      | zero =>
        rw [y] at hb
        cases hb
        rw [show k = n by omega]
        exact ha
      | succ j => rw [y] at hb; cases hb
def tLam (X : Cx) (T : Addr) (lp : Pos) (q : Str) (ar : Arguments) (body : Expr) (scope : Scope) : TE := fun σ H Q => H T = some (.tbl lp q) ∧ ∀ f cl H', Same H H' → Lam X H' q ar body scope f cl → Q (.ref f) H'
theorem pe_lam {X : Cx} {ar : Arguments} {body : Expr} {scope : Scope} {lp : Pos} {q x : Str} {N : List Str} {js : List Nat} {T : Addr} (S : CompScope X scope x N js) (D : Site X.K X.mg X.base X.env.code T) (hq : X.env.qual ++ "<lambda>" = q) (hd : defaultsOf ar X.env = ([], []) := by rfl) :
    PE X (.Lambda ar body scope lp) (tLam X T lp q ar body scope) := by
  with_unfolding_all
    intro pins s σ H Q I h
    exact lam_make I S D h.1 hq hd fun f cl s' H' I' sm L => ⟨.ref f, H', I', rfl, h.2 f cl H' sm L⟩
def spLam (te : TE) (cs : List Cel) : Sp := fun vs H Q _ => ∃ v, vs = [v] ∧ te (some v :: cs.map fun p => some p.2.2) (drp H cs) fun r H' => Q r (trc H' cs)
def tCallT (X : Cx) (j : Nat) (q : Str) (ar : Arguments) (body : Expr) (scope : Scope) (js : List Nat) (te : TE) (sp : Sp) (t : TA) : TE := fun σ H Q => t σ H fun vs H1 => ∃ f cl vals, Lam X H1 q ar body scope f cl ∧ caps σ js = vals.map some ∧
  ∀ cs : List Cel, cs.map (·.2.2) = vals → (∀ p, p ∈ cs → H1 p.1 = none) → (cs.map (·.1)).Nodup → FnV X.prog X.w X.K X.mg X.base j (trc H1 cs) f (spLam te cs) → sp vs (trc H1 cs) (fun v H' => (∀ p, p ∈ cs → H' p.1 = some (cellE p)) ∧ Q v (drp H' cs)) E0
theorem pe_caldT {X : Cx} {k j : Nat} {ps : List Str} {sp : Sp} {x xl : Str} {p pos : Pos} {e : Expr} {es : List Expr} {t : TA} {ar : Arguments} {body : Expr} {scope : Scope} {q : Str} {N : List Str} {js : List Nat} {te : TE}
    (C : CalD X.prog X.w X.K X.mg X.base x k ps sp) (hr : Room k X.A) (hg : Gl X x) (S : CompScope X scope xl N js) (ha : PA X (e :: es) t)
    (hfb : (scope.names.all fun y => y.2 != .free || (N.drop 1).contains y.1) = true) (hfn : ∀ i y, N[i + 1]? = some y → X.fn y = true)
    (hlam : ∀ cl f cd A outer s H, Room j A → PE (cxV X.prog X.w X.K X.mg X.base N scope cl q f cd A outer s H) body te)
    (co : scope.isCoroutine = false := by rfl) (ge : scope.isGenerator = false := by rfl)
    (hb : ∀ cl pm c ct u, bindArgs (PySem.W.kla_fn "<lambda>" q ar body scope cl pm c ct) ⟨[u], []⟩ = pure [(xl, u)] := by intro _ _ _ _ _; rfl)
    (hdb : (x == ("__debug__" : Str)) = false := by decide)
    (he : starEach (e :: es) X.env = (false, eval e X.env) :: starEach es X.env := by rfl) (hpl : (backTo pos (starEach es X.env)).any (·.1) = false := by rfl) :
    PE X (.Call (.Name x p) (e :: es) [] pos) (tCallT X j q ar body scope js te sp t) := by
  obtain ⟨f0, fd, G, b, _, m, kp⟩ := C.ex
  have hf : ∀ y, (y, NameKind.free) ∈ scope.names → ∃ i, N[i + 1]? = some y := fun y hy => by
    have := List.all_eq_true.mp hfb _ hy
    have z : (N.drop 1).contains y = true := by simpa using this
    have z := List.elem_iff.mp z
    obtain ⟨i, hi, ei⟩ := List.getElem_of_mem z
    refine ⟨i, ?_⟩
    have e := List.getElem?_eq_getElem hi
    rw [ei, List.getElem?_drop, Nat.add_comm] at e
    exact e
  with_unfolding_all
    intro pins s σ H Q I h
    refine wpAny_Call_Name_kw (ld_glob I hg m ?_ hdb)
    refine PySem.W.callWith_K (h₀ := X.base) I.ok.mod.kin kp (thn (ha pos pins s σ H _ I h) fun us s1 ⟨vs, H1, I1, r, q1⟩ => ⟨I1.kIn, ?_⟩) he hpl
    obtain ⟨f, cl, vals, L, ecap, hall⟩ := q1
    have R : ∀ i, i < js.length → ∃ c : Cel, ∃ y jj, N[i + 1]? = some y ∧ js[i]? = some jj ∧ X.env.cells.lookup y = some c.1 ∧ s1.heap.get? c.1 = some c.2.1 ∧ CellOk c ∧ vals[i]? = some c.2.2 := fun i hi => by
      obtain ⟨jj, hj⟩ : ∃ jj, js[i]? = some jj := ⟨_, List.getElem?_eq_getElem hi⟩
      obtain ⟨y, hy⟩ : ∃ y, N[i + 1]? = some y := ⟨_, List.getElem?_eq_getElem (by rw [S.len]; omega)⟩
      obtain ⟨n1, n2, n3, n4⟩ := S.cap i jj y hy hj
      have ec : (caps σ js)[i]? = some ((σ[jj]?).join) := by
        unfold caps
        rw [List.getElem?_map, hj]
        rfl
      rw [ecap, List.getElem?_map] at ec
      cases ev : vals[i]? with
      | none => rw [ev] at ec; cases ec
      | some v =>
        rw [ev] at ec
        have e6 : (σ[jj]?).join = some v := (Option.some.inj ec).symm
        have e7 : σ[jj]? = some (some v) := by
          cases eσ : σ[jj]? with
          | none => rw [eσ] at e6; cases e6
          | some o => rw [eσ] at e6; exact congrArg some e6
        obtain ⟨mX, _, lX⟩ := I1.loc
        obtain ⟨u, ru, lk⟩ := lX jj y v n1 e7 n2
        rcases lk with ⟨lk, _⟩ | ⟨_, d, ed, o, ho, hd⟩
        · rw [n3] at lk; cases lk
        · exact ⟨(d, o, v), y, jj, hy, hj, ed, ho, ⟨u, hd, ru⟩, rfl⟩
    obtain ⟨cs, lcs, rcs⟩ := list_choice _ js.length R
    have at_ : ∀ c, c ∈ cs → ∃ (i : Nat) (y : Str), cs[i]? = some c ∧ N[i + 1]? = some y ∧ X.env.cells.lookup y = some c.1 ∧ s1.heap.get? c.1 = some c.2.1 ∧ CellOk c := fun c hc => by
      obtain ⟨i, hi, ei⟩ := List.getElem_of_mem hc
      have e := List.getElem?_eq_getElem hi
      rw [ei] at e
      obtain ⟨y, jj, a1, a2, a3, a4, a5, _⟩ := rcs i c e
      exact ⟨i, y, e, a1, a3, a4, a5⟩
    have nd : (cs.map (·.1)).Nodup := by
      rw [List.nodup_iff_pairwise_ne, List.pairwise_map, List.pairwise_iff_getElem]
      intro i i' h1 h2 lt z
      obtain ⟨y, _, a1, _, a3, _⟩ := rcs i _ (List.getElem?_eq_getElem h1)
      obtain ⟨y', _, b1, _, b3, _⟩ := rcs i' _ (List.getElem?_eq_getElem h2)
      rw [← z] at b3
      have ey := I1.ok.inj y y' _ a3 b3
      subst ey
      have := nodup_ix S.nd a1 b1
      omega
    have none1 : ∀ c, c ∈ cs → H1 c.1 = none := fun c hc => by
      obtain ⟨i, y, _, _, a3, _⟩ := at_ c hc
      exact I1.freeC y c.1 a3
    have big : ∀ c, c ∈ cs → X.s₀.heap.objs.size ≤ c.1 := fun c hc => by
      obtain ⟨i, y, _, a1, a3, _⟩ := at_ c hc
      exact I1.ok.cab y c.1 (hfn i y a1) a3
    have ev : cs.map (·.2.2) = vals := by
      have lv : vals.length = js.length := by
        have := congrArg List.length ecap
        unfold caps at this
        rw [List.length_map, List.length_map] at this
        exact this.symm
      refine List.ext_getElem? fun i => ?_
      rw [List.getElem?_map]
      cases e : cs[i]? with
      | none =>
        have := List.getElem?_eq_none_iff.mp e
        rw [List.getElem?_eq_none (by omega)]
        rfl
      | some c =>
        obtain ⟨_, _, _, _, _, _, _, a6⟩ := rcs i c e
        rw [a6]
        rfl
    have sm : Same H1 (trc H1 cs) := same_trc none1
    have nfs : ∀ c, c ∈ cs → c.1 ∉ frs X.stack := fun c hc z => by
      obtain ⟨i, y, _, a1, a3, a4, _⟩ := at_ c hc
      have no : c.1 ∉ frs X.outer := fun z => by
        have fr := I1.ok.funs.mem z
        obtain ⟨o, ho, _⟩ := fr.2
        exact Nat.lt_irrefl _ (Nat.lt_of_lt_of_le (Heap.lt_size ho) (big c hc))
      rcases I1.ok.stk with e | ⟨e, e'⟩
      · rw [e] at z
        exact no z
      · rw [e] at z
        unfold frs at z
        rw [List.filterMap_cons, e'] at z
        rcases List.mem_cons.mp z with z | z
        · exact I1.cne y c.1 a3 z
        · exact no z
    have e0 : Env0 X.prog X.w X.K X.mg X.base X.A X.stack s1 (trc H1 cs) := by
      refine ⟨I1.ok.frames, I1.ok.mod, fun b o eb => ⟨(I1.bs b o eb).1, ?_⟩, Nat.le_trans I1.ok.bsz I1.sz, I1.stack, fun b hb => ?_, trc_ok nd (fun c hc => ?_) I1.hok, I1.bare⟩
      · rw [trc_ne]
        · exact (I1.bs b o eb).2
        · intro z
          obtain ⟨c, hc, rfl⟩ := List.mem_map.mp z
          exact Nat.lt_irrefl _ (Nat.lt_of_lt_of_le (Heap.lt_size eb) (Nat.le_trans I1.ok.bsz (big c hc)))
      · rw [trc_ne]
        · exact I1.stkFree b hb
        · intro z
          obtain ⟨c, hc, rfl⟩ := List.mem_map.mp z
          exact nfs c hc hb
      · obtain ⟨_, _, _, _, _, a4, _⟩ := at_ c hc
        exact ⟨none1 c hc, a4⟩
    have clo : CloV (trc H1 cs) q ar body scope f cl N cs := by
      obtain ⟨pm, c, ct, oc, us', t', o, e1, e2, e3, e4⟩ := (L.same sm).ex
      refine ⟨⟨pm, c, ct, oc, us', t', o, e1, e2, e3, e4⟩, fun y z c h1 h2 => I1.ok.inj y z c (L.c1 y c h1) (L.c1 z c h2), L.c2, fun y c hc => ?_, by rw [S.len, lcs], fun i p y h1 h2 => ?_, fun p hp => ⟨trc_at nd hp, ?_⟩, nd⟩
      · obtain ⟨i, hi⟩ := hf y (L.c3 y c hc)
        have il : i < cs.length := by
          have := (List.getElem?_eq_some_iff.mp hi).1
          rw [S.len] at this
          omega
        obtain ⟨y', jj, a1, _, a3, _⟩ := rcs i _ (List.getElem?_eq_getElem il)
        rw [hi] at a1
        cases a1
        refine ⟨_, List.getElem_mem il, ?_⟩
        have := L.c1 y c hc
        rw [a3] at this
        exact Option.some.inj this
      · obtain ⟨y', jj, a1, a2, a3, _⟩ := rcs i p h2
        rw [h1] at a1
        cases a1
        obtain ⟨_, _, _, n4⟩ := S.cap i jj y h1 a2
        obtain ⟨d, hd⟩ := L.c2 y n4
        have := L.c1 y d hd
        rw [a3] at this
        cases this
        exact ⟨hd, n4⟩
      · obtain ⟨_, _, _, _, _, _, a5⟩ := at_ p hp
        exact a5
    have LS : LScope scope xl N := ⟨S.kind, S.nocell, S.own, S.head, S.apart⟩
    have F : FnV X.prog X.w X.K X.mg X.base j (trc H1 cs) f (spLam te cs) := by
      refine ⟨?_, fun A outer s2 H2 us2 vs2 Q2 hr2 e2 sm2 rv hq => ?_⟩
      · obtain ⟨pm, c, ct, oc, us', t', o, e1, e2, _⟩ := clo.ex
        exact ⟨o, _, e1, e2⟩
      · obtain ⟨v, rfl, hq⟩ := hq
        obtain ⟨u, rfl, ru⟩ := vals1 rv
        exact clo_run e2 LS (clo.same sm2) hr2.hd (by have := hr2.dp; omega) co ge (hb cl) (fun cd => hlam cl f cd A outer s2 (drp H2 cs) hr2) ru hq
    have hsp := hall cs ev none1 nd F
    have hl : (us ++ []).length = ps.length := by
      rw [List.append_nil, ← r.length]
      exact G.len _ _ _ _ hsp
    refine wpAny_call (codeAny_mono (G.run X.A X.stack s1 (trc H1 cs) ⟨us, []⟩ us vs _ E0 hr e0 (by have := b s1 us I1.kIn hl; rw [List.append_nil] at this; exact this) r hsp) fun r' s' hq => ?_)
    cases r' with
    | error e => exact False.elim hq
    | ok fl =>
      cases fl with
      | ret u =>
        obtain ⟨v, H', os, bare, un, hok, rv, q1, q2⟩ := hq
        refine I1.after ⟨v, drp H' cs, os, bare, un_drp (fun c hc => ?_) (fun c hc => ?_) un, drp_ok (fun c hc => .inr ⟨_, q1 c hc⟩) hok, rv, q2⟩
        · obtain ⟨_, _, _, _, _, a4, _⟩ := at_ c hc
          exact ⟨none1 c hc, a4⟩
        · exact (hok c.1 _ (q1 c hc)).1
      | next => exact False.elim hq
      | brk => exact False.elim hq
      | cont => exact False.elim hq
theorem pe_calL3 {X : Cx} {k j : Nat} {ps : List Str} {sp : Sp} {x xl : Str} {p pos lp : Pos} {e1 e2 e3 : Expr} {t1 t2 t3 : TE} {ar : Arguments} {body : Expr} {scope : Scope} {q : Str} {N : List Str} {js : List Nat} {te : TE} {T : Addr}
    (C : CalD X.prog X.w X.K X.mg X.base x k ps sp) (hr : Room k X.A) (hg : Gl X x) (S : CompScope X scope xl N js) (D : Site X.K X.mg X.base X.env.code T) (h1 : PE X e1 t1) (h2 : PE X e2 t2) (h3 : PE X e3 t3)
    (hfb : (scope.names.all fun y => y.2 != .free || (N.drop 1).contains y.1) = true) (hfn : ∀ i y, N[i + 1]? = some y → X.fn y = true)
    (hlam : ∀ cl f cd A outer s H, Room j A → PE (cxV X.prog X.w X.K X.mg X.base N scope cl q f cd A outer s H) body te) (hq : X.env.qual ++ "<lambda>" = q)
    (co : scope.isCoroutine = false := by rfl) (ge : scope.isGenerator = false := by rfl)
    (hb : ∀ cl pm c ct u, bindArgs (PySem.W.kla_fn "<lambda>" q ar body scope cl pm c ct) ⟨[u], []⟩ = pure [(xl, u)] := by intro _ _ _ _ _; rfl)
    (hd : defaultsOf ar X.env = ([], []) := by rfl) (hdb : (x == ("__debug__" : Str)) = false := by decide)
    (s1 : starEach [e1, e2, e3, .Lambda ar body scope lp] X.env = (false, eval e1 X.env) :: starEach [e2, e3, .Lambda ar body scope lp] X.env := by rfl) (s2 : starEach [e2, e3, .Lambda ar body scope lp] X.env = (false, eval e2 X.env) :: starEach [e3, .Lambda ar body scope lp] X.env := by rfl) (s3 : starEach [e3, .Lambda ar body scope lp] X.env = (false, eval e3 X.env) :: starEach [.Lambda ar body scope lp] X.env := by rfl) (s4 : starEach [.Lambda ar body scope lp] X.env = (false, eval (.Lambda ar body scope lp) X.env) :: starEach [] X.env := by rfl)
    (hpl : (backTo pos (starEach [e2, e3, .Lambda ar body scope lp] X.env)).any (·.1) = false := by rfl) :
    PE X (.Call (.Name x p) [e1, e2, e3, .Lambda ar body scope lp] [] pos) (tCallT X j q ar body scope js te sp (tCons t1 (tCons t2 (tCons t3 (tCons (tLam X T lp q ar body scope) tNil))))) :=
  pe_caldT C hr hg S (pa_cons h1 (pa_cons h2 (pa_cons h3 (pa_cons (pe_lam S D hq hd) pa_nil s4) s3) s2) s1) hfb hfn hlam co ge hb hdb s1 hpl
end L2

set_option Elab.async false
set_option linter.all false
set_option maxRecDepth 100000
set_option maxHeartbeats 4000000
namespace L2
open PySem PySem.Spec PyProof.Rows PySem.W
/-! ## the head: the law's call, some tables tracked from the beginning -/
theorem law_callL {P : Program} {w : World} {K : Frag} {mg mb : Str → Option Value} {k : Nat} {fa a : Addr} {fd : FuncData} {x : Str} {ts : List (Addr × Pos × Str)} {sp : Sp} {s₁ : Shared} {vs : List Value} {ns : List Int}
    (KX : K.In s₁.heap) (kt : tabless K = true) (hns : s₁.heap.Ns mainGlobals mg) (hb : s₁.heap.Ns builtinsNs mb) (hbb : ∀ x : Str, x ≠ "__name__" → mb x = bootBuiltins x) (hlim : s₁.heap.NoLimit) (hg : s₁.gens = #[])
    (ha : s₁.heap.get? a = some { cls := .type "list", data := .seq vs.toArray }) (hi : IntsAre vs ns) (hl : ns.length ≤ sizeLine) (hr : Room k callerA)
    (hT : ∀ b v, ts.lookup b = some v → s₁.heap.get? b = some (tabObj #[])) (hct : ∀ b v, ts.lookup b = some v → isCodeTable s₁.heap b)
    (F : ∀ base : Heap, K.In base → base.Ns mainGlobals mg → (∀ b o, s₁.heap.get? b = some o → ts.lookup b = none → b ≠ a → base.get? b = some o) → FnOk P w K mg base CX0 k fa fd [x] sp) (hbind : ∀ (s : Shared) (u : Value), BindsTo s fd ⟨[u], []⟩ [(x, u)])
    (hsp : ∀ H : Hp, (∀ b v, ts.lookup b = some v → H b = some (.tbl v.1 v.2)) → SqL K H a (ns.map V.int) → sp [.ref a] H (fun v _ => v = .bl true) fun _ _ _ => False) :
    codeAny (model P w) callerA (.call (.ref fa) ⟨[.ref a], []⟩) (fun r s' => r = .ok (.ret (.bool true)) ∧ OldK s₁.heap s'.heap ∧ s'.os = s₁.os ∧ AllBare s'.gens) s₁ := by
  have rv := vals_ints hi
  have lenV := hi.length
  have aT : ts.lookup a = none := by
    cases z : ts.lookup a with
    | none => rfl
    | some v =>
      have := hT a v z
      rw [ha] at this
      cases this
  have core : ∀ H : Hp, (∀ b v, ts.lookup b = some v → H b = some (.tbl v.1 v.2)) → SqL K H a (ns.map V.int) → (∀ b u, H b = some u → (∃ v, ts.lookup b = some v) ∨ (b = a ∧ u = .frz { cls := .type "list", data := .seq vs.toArray } (.lst (ns.map V.int)))) → (H a ≠ none → K.lookup a = none) →
      codeAny (model P w) callerA (.call (.ref fa) ⟨[.ref a], []⟩) (fun r s' => r = .ok (.ret (.bool true)) ∧ OldK s₁.heap s'.heap ∧ s'.os = s₁.os ∧ AllBare s'.gens) s₁ := by
    intro H hHT hS hO hK
    have hok : HOk P w H s₁.heap := fun b u e => by
      rcases hO b u e with ⟨v, z⟩ | ⟨z, rfl⟩
      · rw [hHT b v z] at e
        cases e
        exact ⟨#[], hT b v z, trivial, .inl rfl⟩
      · subst z
        exact ⟨ha, by rw [List.length_map]; exact hl, vs, _, rv, ha⟩
    have base_of : ∀ {b : Addr} {o : Obj}, s₁.heap.get? b = some o → H b = none → (hidT s₁.heap H).get? b = some o := fun e n => hidT_get e n
    have no : ∀ b, ts.lookup b = none → b ≠ a → H b = none := fun b n1 n2 => by
      cases z : H b with
      | none => rfl
      | some u =>
        rcases hO b u z with ⟨v, y⟩ | y
        · rw [n1] at y
          cases y
        · exact absurd y.1 n2
    have noA : ∀ {b : Addr} {o : Obj} {es : Array DictEntry} {ep : Nat}, s₁.heap.get? b = some o → o.data = .dict es ep → H b = none := fun {b o es ep} e d => by
      refine no b ?_ fun z => ?_
      · cases z : ts.lookup b with
        | none => rfl
        | some v =>
          rw [hT b v z] at e
          cases e
          cases d
      · rw [z, ha] at e
        cases e
        cases d
    have nsK : ∀ {b : Addr} {m : Str → Option Value}, s₁.heap.Ns b m → (hidT s₁.heap H).Ns b m := fun {b m} ⟨o, es, ep, e, d, r⟩ => ⟨o, es, ep, base_of e (noA e d), d, r⟩
    have hKb : K.In (hidT s₁.heap H) := fun b o e => base_of (KX b o e) (by
      cases z : H b with
      | none => rfl
      | some u =>
        rcases hO b u z with ⟨v, y⟩ | y
        · have e' := KX b o e
          rw [hT b v y] at e'
          cases e'
          exact absurd e (tabless_ne kt)
        · have e2 := hK (by rw [← y.1, z]; simp)
          rw [← y.1, e] at e2
          cases e2)
    have hM : Mod K mg (hidT s₁.heap H) := ⟨hKb, nsK hns, ⟨mb, nsK hb, hbb⟩, let ⟨mc, h1, h2⟩ := hlim; ⟨mc, nsK h1, h2⟩⟩
    have e0 : Env0 P w K mg (hidT s₁.heap H) callerA [] s₁ H := ⟨rfl, hM, fun b o e => of_hidT e, Nat.le_of_eq (hidT_size _ _), trivial, fun b hb => absurd (show b ∈ ([] : List Addr) from hb) (by simp), hok, .of_eq hg⟩
    refine codeAny_mono ((F _ hKb (nsK hns) fun b o e n1 n2 => base_of e (no b n1 n2)).run callerA [] s₁ H ⟨[.ref a], []⟩ [.ref a] [.ref a] _ _ hr e0 (hbind s₁ (.ref a)) (.cons rfl .nil) (hsp H hHT hS)) fun r s' h => ?_
    cases r with
    | error e => exact False.elim h
    | ok fl =>
      cases fl with
      | next => exact False.elim h
      | brk => exact False.elim h
      | cont => exact False.elim h
      | ret u =>
        obtain ⟨v, H', os, bare, un, hok', r', qv⟩ := h
        have qv' : v = .bl true := qv
        subst qv'
        obtain rfl : u = Value.bool true := r'
        have kp : ∀ b o, ts.lookup b = none → s₁.heap.get? b = some o → s'.heap.get? b = some o := fun b o n e => by
          cases z : H b with
          | none => exact un.keep b o e z (by intro z; exact absurd (show b ∈ ([] : List Addr) from z) (by simp)) (by simp)
          | some u =>
            rcases hO b u z with ⟨v, y⟩ | ⟨y, rfl⟩
            · rw [n] at y
              cases y
            · have z2 := un.frzs b _ _ z
              obtain ⟨e2, _⟩ := hok' b _ z2
              subst y
              rw [ha] at e
              cases e
              exact e2
        have tb : ∀ b v, ts.lookup b = some v → ∃ ws : Array Value, s'.heap.get? b = some { cls := .none, data := .fields ws } := fun b v z => by
          obtain ⟨ws, g1, _⟩ := hok' b _ (un.tbls b v.1 v.2 (hHT b v z))
          exact ⟨ws, g1⟩
        refine ⟨rfl, ⟨fun b o e => ?_, fun b o e => ?_⟩, os, bare⟩
        · cases z : ts.lookup b with
          | none => exact .inl (kp b o z e)
          | some v =>
            obtain ⟨ws, g1⟩ := tb b v z
            rw [hT b v z] at e
            cases e
            exact .inr (.inl ⟨hct b v z, rfl, #[], ws, rfl, by simpa using g1⟩)
        · cases z : ts.lookup b with
          | none => exact ⟨o, kp b o z e⟩
          | some v =>
            obtain ⟨ws, g1⟩ := tb b v z
            exact ⟨_, g1⟩
  cases hk : K.lookup a with
  | some o =>
    have e := KX a o hk
    rw [ha] at e
    cases e
    refine core (fun b => (ts.lookup b).map fun v => .tbl v.1 v.2) (fun b v z => by show Option.map _ (ts.lookup b) = _; rw [z]; rfl) (.inr ⟨_, vs.toArray, _, hk, rfl, rfl, rfl, by rw [List.size_toArray, lenV]; exact hl, by simpa using rv⟩) (fun b u z => ?_) fun z => absurd (show Option.map _ (ts.lookup a) = none by rw [aT]; rfl) z
    have z : Option.map (fun v : Pos × Str => HO.tbl v.1 v.2) (ts.lookup b) = some u := z
    cases y : ts.lookup b with
    | none => rw [y] at z; cases z
    | some v => exact .inl ⟨v, rfl⟩
  | none =>
    refine core (fun b => match ts.lookup b with | some v => some (.tbl v.1 v.2) | none => if b = a then some (.frz { cls := .type "list", data := .seq vs.toArray } (.lst (ns.map V.int))) else none) (fun b v z => by show (match ts.lookup b with | some v => some (HO.tbl v.1 v.2) | none => _) = _; rw [z]) (.inl (.inr ⟨{ cls := .type "list", data := .seq vs.toArray }, ?_⟩)) (fun b u z => ?_) fun _ => hk
    · show (match ts.lookup a with | some v => some (HO.tbl v.1 v.2) | none => _) = _
      rw [aT]
      exact if_pos rfl
    · have z : (match ts.lookup b with | some v => some (HO.tbl v.1 v.2) | none => if b = a then some (.frz { cls := .type "list", data := .seq vs.toArray } (.lst (ns.map V.int))) else none) = some u := z
      cases y : ts.lookup b with
      | some v => exact .inl ⟨v, rfl⟩
      | none =>
        rw [y] at z
        by_cases hb2 : b = a
        · have z : (if b = a then some (HO.frz { cls := .type "list", data := .seq vs.toArray } (.lst (ns.map V.int))) else none) = some u := z
          rw [if_pos hb2] at z
          cases z
          exact .inr ⟨hb2, rfl⟩
        · have z : (if b = a then some (HO.frz { cls := .type "list", data := .seq vs.toArray } (.lst (ns.map V.int))) else none) = some u := z
          rw [if_neg hb2] at z
          cases z
def tabOf (K : Frag) (cv : Value) : Option Addr := match cv with
  | Value.ref c => (match K.lookup c with
    | some o => (match o.data with
      | .fields vs => (match (vs[11]? : Option Value) with
        | some (Value.ref T) => some T
        | _ => none)
      | _ => none)
    | none => none)
  | _ => none
def tabNe (K : Frag) (a b : Value) : Bool := match tabOf K a, tabOf K b with
  | some x, some y => x != y
  | _, _ => false
theorem tab_at {K : Frag} {h : Heap} (X : K.In h) {c P : Addr} {ps : Array Value} (t : h.TableAt c P ps) {T : Addr} (e : tabOf K (.ref c) = some T) : T = P := by
  obtain ⟨⟨o, vs, h1, _, h3, h4⟩, _⟩ := t
  unfold tabOf at e
  cases z : K.lookup c with
  | none => simp only [z] at e; cases e
  | some o' =>
    have := X c o' z
    rw [h1] at this
    cases this
    simp only [z, h3, h4] at e
    exact (Option.some.inj e).symm
theorem tab_ne {K : Frag} {h : Heap} (X : K.In h) {c d P R : Addr} {ps rs : Array Value} (t : h.TableAt c P ps) (u : h.TableAt d R rs) (e : tabNe K (.ref c) (.ref d) = true) : P ≠ R := by
  unfold tabNe at e
  cases z : tabOf K (.ref c) with
  | none => rw [z] at e; cases e
  | some x =>
    cases y : tabOf K (.ref d) with
    | none => rw [z, y] at e; cases e
    | some v =>
      rw [z, y] at e
      have := tab_at X t z
      have := tab_at X u y
      subst_vars
      intro q
      rw [q] at e
      simp at e
theorem walk_of2 {l : OpenLaw} {n k : Nat} {qp : Program} {loose : List Str} {XP : (Str → Option Value) → Heap → Prop} {YP : World → Heap → Prop} {d : DefRec} {K : Params → Frag} {sp : Frag → Addr → Addr → Sp} {x g g' : Str} {lp lp' : Pos} {q q' : Str}
    (hn : l.most = some n) (hn2 : n ≤ sizeLine) (hdf : d.params.defaults = []) (hr : Room k callerA)
    (hY : ∀ (w : World) (h : Heap), YP w h → (K w.params).In h) (hK : ∀ p, tabless (K p) = true) (hrec : ∃ dr, (recsOf qp).find? (fun e => e.name == g) = some dr) (hrec' : ∃ dr, (recsOf qp).find? (fun e => e.name == g') = some dr)
    (F : ∀ (w : World) (mg : Str → Option Value) (fa : Addr) (h : Heap), (K w.params).In h → h.Ns mainGlobals mg → mg d.name = some (.ref fa) →
      ∃ (fd fg fg' : FuncData) (ag ag' : Addr) (og og' : Obj), (∀ (s : Shared) (u : Value), BindsTo s fd ⟨[u], []⟩ [(x, u)]) ∧ mg g = some (.ref ag) ∧ (K w.params).lookup ag = some og ∧ og.data = .func fg ∧ mg g' = some (.ref ag') ∧ (K w.params).lookup ag' = some og' ∧ og'.data = .func fg' ∧ tabNe (K w.params) fg.code fg'.code = true ∧
        ∀ T T' (base : Heap), (K w.params).In base → base.Ns mainGlobals mg → Site (K w.params) mg base fg.code T → Site (K w.params) mg base fg'.code T' → FnOk l.prog w (K w.params) mg base CX0 k fa fd [x] (sp (K w.params) T T'))
    (hsp : ∀ (K : Frag) (T T' : Addr) (H : Hp) (a : Addr) (ns : List Int), ns.length ≤ n → H T = some (.tbl lp q) → H T' = some (.tbl lp' q') → SqL K H a (ns.map V.int) → sp K T T' [.ref a] H (fun v _ => v = .bl true) fun _ _ _ => False) :
    WalkO qp loose XP YP l.row.toRowW d [] (fun f vs => PySem.call f vs) := by
  refine Att.attach_call hn hdf fun w s₀ s₁ mg mb fa o pm cd doc a vs ns G Y ho hd hcd hmg hobj hints hlen hg => ?_
  have KX := hY w _ Y
  obtain ⟨fd, fg, fg', ag, ag', og, og', hb, hmg2, hlk, hog, hmg3, hlk', hog', hne, hF⟩ := F w mg fa _ KX G.T.g hmg
  have tabF : ∀ {g : Str} {ag : Addr} {og : Obj} {fg : FuncData}, (∃ dr, (recsOf qp).find? (fun e => e.name == g) = some dr) → mg g = some (.ref ag) → (K w.params).lookup ag = some og → og.data = .func fg → ∃ c T, fg.code = .ref c ∧ s₁.heap.IsCode c T #[] ∧ s₁.heap.TableAt c T #[] := fun {g ag og fg} hrec hmg2 hlk hog => by
    obtain ⟨dr, hdr⟩ := hrec
    have hnm : dr.name = g := beq_iff_eq.mp (List.find?_some (p := fun e : DefRec => e.name == g) hdr)
    obtain ⟨a', o', fd', c, T, h1, h2, h3, h4, h5, h6⟩ := G.T.tab dr (List.mem_of_find?_eq_some hdr)
    rw [hnm, hmg2] at h1
    cases h1
    have h2' := KX ag og hlk
    rw [h2] at h2'
    cases h2'
    rw [hog] at h3
    cases h3
    exact ⟨c, T, h4, h5, h6⟩
  obtain ⟨c, T, h4, h5, h6⟩ := tabF hrec hmg2 hlk hog
  obtain ⟨c', T', h4', h5', h6'⟩ := tabF hrec' hmg3 hlk' hog'
  rw [h4, h4'] at hne
  have TT : T ≠ T' := tab_ne KX h6 h6' hne
  obtain ⟨bm, ob, b1, b2, b3, b4, b5, b6⟩ := G.T.bmain
  have ha := hobj
  have lk1 : ∀ b v, ([(T, lp, q), (T', lp', q')] : List (Addr × Pos × Str)).lookup b = some v → (b = T ∧ v = (lp, q)) ∨ (b = T' ∧ v = (lp', q')) := fun b v z => by
    rw [List.lookup_cons] at z
    cases y : b == T with
    | true =>
      rw [y] at z
      exact .inl ⟨beq_iff_eq.mp y, (Option.some.inj z).symm⟩
    | false =>
      rw [y, List.lookup_cons] at z
      cases y2 : b == T' with
      | true =>
        rw [y2] at z
        exact .inr ⟨beq_iff_eq.mp y2, (Option.some.inj z).symm⟩
      | false =>
        rw [y2] at z
        cases z
  have lkN : ∀ b, b ≠ T → b ≠ T' → ([(T, lp, q), (T', lp', q')] : List (Addr × Pos × Str)).lookup b = none := fun b n1 n2 => by
    cases z : ([(T, lp, q), (T', lp', q')] : List (Addr × Pos × Str)).lookup b with
    | none => rfl
    | some v =>
      rcases lk1 b v z with y | y
      · exact absurd y.1 n1
      · exact absurd y.1 n2
  have bTs : ∀ {T c : Addr}, s₁.heap.TableAt c T #[] → bm ≠ T := fun {T c} h6 z => by
    have hT := h6.2
    rw [z, hT] at b3
    cases b3
    cases b4
  have ba : bm ≠ a := fun z => by
    rw [z, ha] at b3
    cases b3
    injection b4 with y
    exact absurd y (by decide)
  have bG : bm ≠ mainGlobals := fun z => by
    obtain ⟨og', es, ep, e, dd, _⟩ := G.T.g
    rw [z, e] at b3
    cases b3
    rw [dd] at b6
    cases b6
  have cTs : ∀ {c T R d : Addr}, s₁.heap.TableAt c T #[] → s₁.heap.TableAt d R #[] → c ≠ R := fun {c T R d} h6 h6' z => by
    obtain ⟨⟨oc, us, c1, c2, c3, c4⟩, _⟩ := id h6
    have hT := h6'.2
    rw [z, hT] at c1
    cases c1
    cases c2
  have cas : ∀ {c T : Addr}, s₁.heap.TableAt c T #[] → c ≠ a := fun {c T} h6 z => by
    obtain ⟨⟨oc, us, c1, c2, c3, c4⟩, _⟩ := id h6
    rw [z, ha] at c1
    cases c1
    injection c2 with y
    exact absurd y (by decide)
  have site : ∀ {c R : Addr} {cv : Value}, cv = .ref c → s₁.heap.IsCode c R #[] → s₁.heap.TableAt c R #[] → ∀ h : Heap, (∀ b o, s₁.heap.get? b = some o → ([(T, lp, q), (T', lp', q')] : List (Addr × Pos × Str)).lookup b = none → b ≠ a → h.get? b = some o) → Site (K w.params) mg h cv R := fun {c R cv} h4 h5 h7 h kp =>
    ⟨⟨c, h4, by
      obtain ⟨o2, vs2, file, tf, flags, tg, inF, text, tt, e, r⟩ := id (CodeHd.of h5 h7)
      exact ⟨o2, vs2, file, tf, flags, tg, inF, text, tt, kp _ _ e (lkN c (cTs h7 h6) (cTs h7 h6')) (cas h7), r⟩⟩, bm, ob, b1, b2, bG, bTs h7, kp _ _ b3 (lkN bm (bTs h6) (bTs h6')) ba, b4, b5, b6⟩
  refine law_callL (ts := [(T, lp, q), (T', lp', q')]) (sp := sp (K w.params) T T') KX (hK _) G.T.g G.T.b G.T.builtins G.T.nolimit hg hobj hints (Nat.le_trans hlen hn2) hr (fun b v z => ?_) (fun b v z => ?_) (fun base i1 i2 kp => hF T T' base i1 i2 (site h4 h5 h6 base kp) (site h4' h5' h6' base kp)) hb fun H hO hS => hsp (K w.params) T T' H a ns hlen ?_ ?_ hS
  · rcases lk1 b v z with ⟨rfl, _⟩ | ⟨rfl, _⟩
    · exact h6.2
    · exact h6'.2
  · rcases lk1 b v z with ⟨rfl, _⟩ | ⟨rfl, _⟩
    · exact h6.isCodeTable
    · exact h6'.isCodeTable
  · exact hO T (lp, q) (by simp)
  · refine hO T' (lp', q') ?_
    have : (T' == T) = false := by simpa using TT.symm
    rw [List.lookup_cons, this]
    simp
end L2

set_option Elab.async false
set_option linter.all false
set_option maxRecDepth 100000
set_option maxHeartbeats 4000000
namespace PySem
open Sem (wp)
/-! ## dict(a list of pairs) -/
namespace F
end F
section
variable {prog : Program} {w : World} {K : Type} [DecidableEq K] {knd : KeyKind prog w K} {A : Around} {R : Result → Shared → Prop}
end
end PySem
namespace L2
open PySem PySem.Spec PyProof.Rows
/-! ### pairs of unlike numbers -/
/-! ### how much is left behind rows -/
theorem comp_tupsR {K : PySem.W.Frag} {a : Addr} {xs : List V} {js : List Nat} {tc : TT} {te : TE} {σ : St} {H1 : Hp} {Q : VK} (R : Nat → List V → Prop) (hl : SqL K H1 a xs)
    (ht : ∀ (i : Nat) x Hh (Q' : Bool → Hp → Prop), xs[i]? = some x → Same H1 Hh → (∀ Hh', Same Hh Hh' → Q' true Hh') → tc (some x :: caps σ js) Hh Q')
    (he : ∀ (i : Nat) x Hh (Q' : VK), xs[i]? = some x → Same H1 Hh → (∀ b t Hh', Same Hh Hh' → R i t → Hh' b = some (.tup t) → Q' (.ref b) Hh') → te (some x :: caps σ js) Hh Q')
    (hz : xs.length < sizeLine) (q : ∀ D H2 (bs : List (Addr × List V)), Same H1 H2 → H1 D = none → H2 D = some (.lst (bs.map fun b => V.ref b.1)) → bs.length = xs.length → (∀ (i : Nat) b, bs[i]? = some b → R i b.2) → (∀ b, b ∈ bs → H2 b.1 = some (.tup b.2)) → Q (.ref D) H2) :
    CompGo (Itl K a) js tc te σ H1 Q := by
  intro D H2 s2 hD h2
  refine ⟨fun i m acc H3 => m = xs.length - i ∧ i ≤ xs.length ∧ ∃ bs : List (Addr × List V), acc = (bs.map fun b => V.ref b.1) ∧ bs.length = i ∧ (∀ (j : Nat) b, bs[j]? = some b → R j b.2) ∧ (∀ b, b ∈ bs → H3 b.1 = some (.tup b.2)) ∧ Same H1 H3 ∧ H3 D = some (.lst acc), ⟨_, rfl, Nat.zero_le _, [], rfl, rfl, fun j b hb => by simp at hb, fun b hb => by simp at hb, s2, h2⟩, ?_⟩
  rintro i m acc H3 ⟨rfl, hi, bs, ea, eb, rb, hb, s3, h3⟩
  have hl3 : SqL K H3 a xs := s3.seq hl
  have hll : acc.length ≤ xs.length := by
    rw [ea, List.length_map]
    omega
  refine ⟨h3, by omega, ?_⟩
  by_cases hlt : i < xs.length
  · have hx : xs[i]? = some xs[i] := List.getElem?_eq_getElem hlt
    refine .inr ⟨⟨xs, _, hl3, hx⟩, fun y H4 z => ?_⟩
    obtain ⟨e, ey⟩ := z
    have ey2 := ey xs hl3
    subst e
    refine ht i y _ _ ey2 s3 fun H5 s5 => ?_
    have h5 := s5 _ _ h3
    have s35 := s3.trans s5
    refine iteT (he i y _ _ ey2 s35 fun b6 t6 H6 s6 r6 g6 => ⟨s6 _ _ h5, fun H7 k7 h7 => ⟨xs.length - (i + 1), by omega, rfl, hlt, bs ++ [(b6, t6)], ?_, by rw [List.length_append, eb]; rfl, fun j b hj => ?_, fun b hb' => ?_, fun b o e => ?_, h7⟩⟩)
    · rw [ea, List.map_append]
      rfl
    · by_cases z : j < bs.length
      · rw [List.getElem?_append_left z] at hj
        exact rb j b hj
      · rw [List.getElem?_append_right (by omega)] at hj
        cases y : j - bs.length with
        | zero =>
          rw [y] at hj
          cases hj
          rw [show j = i by omega]
          exact r6
        | succ n => rw [y] at hj; cases hj
    · have nD : ∀ c t, H6 c = some (.tup t) → c ≠ D := fun c t g z => by
        rw [z, s6 _ _ h5] at g
        cases g
      rcases List.mem_append.mp hb' with h | h
      · have g := s6 _ _ (s5 _ _ (hb b h))
        exact k7 _ _ (nD _ _ g) g
      · have : b = (b6, t6) := by simpa using h
        subst this
        exact k7 _ _ (nD _ _ g6) g6
    · by_cases hbD : b = D
      · subst hbD
        rw [hD] at e
        cases e
      · exact k7 b o hbD (s6 b o (s35 b o e))
  · have e : i = xs.length := by omega
    subst e
    refine .inl ⟨⟨xs, hl3, Nat.le_refl _⟩, ?_⟩
    rw [ea] at h3
    exact q D _ bs s3 hD h3 eb rb hb
/-! cells -/
theorem trc_drp {H : Hp} {cs : List Cel} (nd : (cs.map (·.1)).Nodup) (h : ∀ p, p ∈ cs → H p.1 = some (cellE p)) : trc (drp H cs) cs = H := by
  funext b
  by_cases z : b ∈ cs.map (·.1)
  · obtain ⟨p, hp, rfl⟩ := List.mem_map.mp z
    rw [trc_at nd hp, h p hp]
  · rw [trc_ne z, drp_ne z]
theorem drp_get {H : Hp} {cs : List Cel} {b : Addr} {u : HO} (h : ∀ p, p ∈ cs → H p.1 = some (cellE p)) (hu : ∀ φ, u ≠ .ext φ) (e : H b = some u) : drp H cs b = some u := by
  rw [drp_ne (off_cells (fun p hp => .inr ⟨_, h p hp⟩) hu e)]
  exact e
theorem drp_same {H H' : Hp} {cs : List Cel} (n : ∀ p, p ∈ cs → H p.1 = none) (s : Same (trc H cs) H') : Same H (drp H' cs) := fun b o e => by
  have z : b ∉ cs.map (·.1) := fun z => by
    obtain ⟨p, hp, rfl⟩ := List.mem_map.mp z
    rw [n p hp] at e
    cases e
  rw [drp_ne z]
  exact s _ _ (same_trc n _ _ e)
theorem IsRun.drp {H : Hp} {cs : List Cel} {D : Addr} {rs : List (Addr × Addr × Int × List Int)} (h : ∀ p, p ∈ cs → H p.1 = some (cellE p)) (R : IsRun H D rs) : IsRun (L2.drp H cs) D rs :=
  ⟨drp_get h (fun φ z => by cases z) R.at_, fun r hr => drp_get h (fun φ z => by cases z) (R.row r hr), fun r hr => drp_get h (fun φ z => by cases z) (R.num r hr)⟩
theorem putI_new {L : List (Int × Int)} {k v : Int} (h : k ∉ L.map (·.1)) : putI L k v = L ++ [(k, v)] := by
  unfold putI
  rw [if_neg]
  intro z
  obtain ⟨p, hp, e⟩ := List.any_eq_true.mp z
  exact h (List.mem_map.mpr ⟨p, hp, of_decide_eq_true e⟩)
end L2

set_option Elab.async false
set_option linter.all false
set_option maxRecDepth 100000
set_option maxHeartbeats 4000000
namespace PySem
open Sem (wp)
/-! ## enumerate(xs, start=n): the count and the place differ -/
section
variable {prog : Program} {w : World} {A : Around} {E : Value → Shared → Prop} {s : Shared}
theorem enumS_item {e it l : Addr} {j : Nat} {c : Int} {items : Array Value} {x old : Value} {Q : Value → Shared → Prop}
    (en : IsEnum s.heap e it c old) (li : s.heap.IsListIter it l j) (ls : s.heap.IsList l items) (hx : items[j]? = some x) (ei : e ≠ it)
    (fin : ∀ h', IsEnumOut h' e it (c + 1) x s.heap.objs.size → h'.IsListIter it l (j + 1) →
      h'.get? s.heap.objs.size = some { cls := .type "tuple", data := .seq #[.int c s.toks, x] } → h'.objs.size = s.heap.objs.size + 1 →
      (∀ b o, b ≠ e → b ≠ it → s.heap.get? b = some o → h'.get? b = some o) → Q (.ref s.heap.objs.size) { s with heap := h', toks := s.toks + 1 }) :
    wpAny (model prog w) A (Builtin.«enumerate.__next__» ⟨[.ref e], []⟩) (fun f s' => ∃ v, f = .done (.ret v) ∧ Q v s') E s := by
  rcases s with ⟨h0, gs, dr, n0, oz⟩
  show wpAny _ _ (field (.ref e) 2 >>= _) _ _ _
  refine wpAny_bind (wpAny_field en rfl (x := .ref it) rfl (wpAny_bind (wpAny_nextOf_list_item li ls hx fun h1 li1 sb1 => ?_)))
  have sb1 : Heap.SameBut it h0 h1 := sb1
  have en1 : IsEnum h1 e it c old := (sb1.2 e ei).trans en
  show wpAny _ _ (field (.ref e) 3 >>= _) _ _ ⟨h1, gs, dr, n0, oz⟩
  refine wpAny_bind (wpAny_field en1 rfl (x := rawInt c) rfl ?_)
  show wpAny _ _ (field (.ref e) 4 >>= _) _ _ ⟨h1, gs, dr, n0, oz⟩
  refine wpAny_bind (wpAny_field en1 rfl (x := .none) rfl ?_)
  show wpAny _ _ (mkInt c >>= _) _ _ ⟨h1, gs, dr, n0, oz⟩
  refine wpAny_bind (wpAny_mkInt ?_)
  show wpAny _ _ (setField (.ref e) 3 (rawInt (c + 1)) >>= _) _ _ ⟨h1, gs, dr, n0 + 1, oz⟩
  refine wpAny_bind (wpAny_setField_rec en1 (by simp) fun h2 en2 sb2 => ?_)
  have sb2 : Heap.SameBut e h1 h2 := sb2
  have en2 : IsEnum h2 e it (c + 1) old := en2
  show wpAny _ _ (setField (.ref e) 4 .none >>= _) _ _ ⟨h2, gs, dr, n0 + 1, oz⟩
  refine wpAny_bind (wpAny_setField_rec en2 (by simp) fun h3 en3 sb3 => ?_)
  have sb3 : Heap.SameBut e h2 h3 := sb3
  have en3 : IsEnum h3 e it (c + 1) old := en3
  show wpAny _ _ (newTuple [.int c n0, x] >>= _) _ _ ⟨h3, gs, dr, n0 + 1, oz⟩
  refine wpAny_bind (wpAny_newTuple ?_)
  have z3 : h3.objs.size = h0.objs.size := sb3.1.trans (sb2.1.trans sb1.1)
  have k3 : ∀ b o, b ≠ e → b ≠ it → h0.get? b = some o → h3.get? b = some o := fun b o n1 n2 q => sb3.extBut b o n1 (sb2.extBut b o n1 (sb1.extBut b o n2 q))
  have li3 : h3.IsListIter it l (j + 1) := (li1.extBut sb2.extBut ei.symm).extBut sb3.extBut ei.symm
  have le : e < h0.objs.size := Heap.lt_size en
  generalize e4 : h3.push { cls := .type "tuple", data := .seq #[.int c n0, x] } = h4
  have en4 : IsEnum h4 e it (c + 1) old := by rw [← e4]; exact Heap.get?_push_of_some _ en3
  have tp4 : h4.get? h0.objs.size = some { cls := .type "tuple", data := .seq #[.int c n0, x] } := by rw [← e4, ← z3]; exact Heap.get?_push_size _ rfl
  have z4 : h4.objs.size = h0.objs.size + 1 := by rw [← e4, Heap.size_push, z3]
  have k4 : ∀ b o, b ≠ e → b ≠ it → h0.get? b = some o → h4.get? b = some o := fun b o n1 n2 q => by rw [← e4]; exact Heap.get?_push_of_some _ (k3 b o n1 n2 q)
  have li4 : h4.IsListIter it l (j + 1) := by rw [← e4]; obtain ⟨o, q, r⟩ := li3; exact ⟨o, Heap.get?_push_of_some _ q, r⟩
  show wpAny _ _ (Builtin.SmallTypes.ownedTupleIsFree (.ref e) >>= _) _ _ ⟨h4, gs, dr, n0 + 1, oz⟩
  rw [z3]
  refine wpAny_bind ?_
  unfold Builtin.SmallTypes.ownedTupleIsFree
  refine wpAny_bind (wpAny_field en4 rfl (x := .none) rfl (wpAny_pure ?_))
  simp only [if_true]
  refine wpAny_bind (wpAny_rule (wpAny_bind (wpAny_field en4 rfl (x := old) rfl (wpAny_bind (wpAny_setField_rec en4 (by simp) fun h5 en5 sb5 => ?_)))))
  have sb5 : Heap.SameBut e h4 h5 := sb5
  have en5 : IsEnum h5 e it (c + 1) x := en5
  show wpAny _ _ (Builtin.SmallTypes.ownedTupleHandOut (.ref e) (.ref h0.objs.size) >>= _) _ _ ⟨h5, gs, dr, n0 + 1, oz⟩
  refine wpAny_bind ?_
  unfold Builtin.SmallTypes.ownedTupleHandOut
  refine wpAny_bind (wpAny_setField_rec en5 (by simp) fun h6 en6 sb6 => ?_)
  have sb6 : Heap.SameBut e h5 h6 := sb6
  have en6 : IsEnumOut h6 e it (c + 1) x h0.objs.size := en6
  refine wpAny_setField_rec en6 (by simp) fun h7 en7 sb7 => ?_
  have sb7 : Heap.SameBut e h6 h7 := sb7
  have en7 : IsEnumOut h7 e it (c + 1) x h0.objs.size := en7
  have k7 : ∀ b o, b ≠ e → h4.get? b = some o → h7.get? b = some o := fun b o n1 q => sb7.extBut b o n1 (sb6.extBut b o n1 (sb5.extBut b o n1 q))
  refine wpAny_bind (wpAny_letGo (wpAny_pure ⟨_, rfl, fin h7 en7 ?_ (k7 _ _ (Nat.ne_of_gt le) tp4) (by rw [sb7.1, sb6.1, sb5.1, z4]) fun b o n1 n2 q => k7 b o n1 (k4 b o n1 n2 q)⟩))
  obtain ⟨o, q, r⟩ := li4
  exact ⟨o, k7 it o ei.symm q, r⟩
theorem enumS_next {e it l : Addr} {j : Nat} {c : Int} {items : Array Value} {x old : Value} {Q : Option Value → Shared → Prop}
    (en : IsEnum s.heap e it c old) (li : s.heap.IsListIter it l j) (ls : s.heap.IsList l items) (hx : items[j]? = some x) (ei : e ≠ it)
    (fin : ∀ h', IsEnumOut h' e it (c + 1) x s.heap.objs.size → h'.IsListIter it l (j + 1) →
      h'.get? s.heap.objs.size = some { cls := .type "tuple", data := .seq #[.int c s.toks, x] } → h'.objs.size = s.heap.objs.size + 1 →
      (∀ b o, b ≠ e → b ≠ it → s.heap.get? b = some o → h'.get? b = some o) → Q (some (.ref s.heap.objs.size)) { s with heap := h', toks := s.toks + 1 }) :
    wpAny (model prog w) A (pyNext (.ref e)) Q E s := by
  have ty : s.TypeIs (.ref e) "enumerate" := ⟨_, en, rfl⟩
  unfold pyNext
  exact wpAny_bind (wpAny_attempt (wpAny_callSpecial?_slot (name := Str.ofString "__next__") ty F.slot_enumerate_next (wpAny_call_entry F.slot_enumerate_next ty F.entry_enumerate_next (enumS_item en li ls hx ei fun h' a1 a2 a3 a4 a5 => wpAny_pure (fin h' a1 a2 a3 a4 a5)) (F.args_enumerate_next_1 _))))
theorem enumS_end {e it l : Addr} {j : Nat} {c : Int} {items : Array Value} {old : Value} {Q : Option Value → Shared → Prop} (hh : A.handled = none)
    (en : IsEnum s.heap e it c old) (li : s.heap.IsListIter it l j) (ls : s.heap.IsList l items) (hx : items[j]? = none)
    (fin : ∀ h', Heap.ExtBut it s.heap h' → Q none { s with heap := h' }) : wpAny (model prog w) A (pyNext (.ref e)) Q E s := by
  have ty : s.TypeIs (.ref e) "enumerate" := ⟨_, en, rfl⟩
  unfold pyNext
  refine wpAny_bind (wpAny_attempt (wpAny_callSpecial?_slot (name := Str.ofString "__next__") ty F.slot_enumerate_next (wpAny_call_entry F.slot_enumerate_next ty F.entry_enumerate_next ?_ (F.args_enumerate_next_1 _))))
  show wpAny _ _ (field (.ref e) 2 >>= _) _ _ _
  refine wpAny_bind (wpAny_field en rfl (x := .ref it) rfl (wpAny_bind (wpAny_nextOf_list_end hh li ls hx fun h' y kp hy => ?_)))
  obtain ⟨o, q1, q2⟩ := hy
  exact wpAny_bind (wpAny_isInstance (T := "StopIteration") (b := true) ⟨o, q1, q2⟩ isSubtype_stop (wpAny_pure (fin _ kp)))
end
end PySem

set_option Elab.async false
set_option linter.all false
set_option maxRecDepth 100000
set_option maxHeartbeats 4000000
namespace PySem
open Sem (wp)
open AutoSeq1 (wpAny_loadPart')
theorem tc_enumK (a b : Value) : checkTypeCall "enumerate" ⟨[a], [("start", b)]⟩ = pure () := by kernel_rfl
theorem nc_enumK (a b : Value) : checkBuiltinCall "enumerate.__new__" ⟨[.type "enumerate", a], [("start", b)]⟩ = pure () := by kernel_rfl
theorem ia_enumK (a b c : Value) : argsOk "object.__init__" ⟨[a, b], [("start", c)]⟩ := by
  unfold argsOk
  rw [signature?_of (id := "object.__init__") (n := "__tini__".toList) (o := "tcejbo".toList) (by kernel_rfl) F.owner_object]
  kernel_rfl
theorem fits_of {c : Int} (h : 0 ≤ c) (h' : c < 2 ^ 63) : Builtin.SmallTypes.fitsIndex c = true := by
  unfold Builtin.SmallTypes.fitsIndex
  simp only [Bool.and_eq_true, decide_eq_true_eq]
  omega
theorem oinit_kw {T nid : String} {self : Value} {rest : List Value} {kw : List (Str × Value)} (hl : typeLookup (.type T) "__init__" = pure (some (.builtin "object.__init__")))
    (hm : Bind.madeBy (.type T) = pure (some nid)) (ne : (some nid != some "object.__new__") = true) (hr : rest ≠ []) :
    Meets (Builtin.«object.__init__» ⟨self :: rest, kw⟩) (fun _ R s => s.TypeIs self T ∧ R (.ok (.ret .none)) s) := by
  refine Meets.of_wp fun prog w A R s hs => ?_
  obtain ⟨ty, q⟩ := hs
  cases rest with
  | nil => exact absurd rfl hr
  | cons y ys =>
    repeat (any_goals (first | assumption | wp_step))
    exact ⟨_, rfl, q⟩
set_option maxHeartbeats 8000000 in
theorem meets_enumK (l : Addr) (its : Array Value) (n : Nat) (dct : Option Addr) (sl : Array (Option Value)) (c : Int) (t : Tok) (hc : Builtin.SmallTypes.fitsIndex c = true) :
    Meets (Builtin.«enumerate.__new__» ⟨[.type "enumerate", .ref l], [("start", .int c t)]⟩) (fun _ R s => s.heap.get? l = some { cls := .type "list", dict := dct, data := .seq its n, slots := sl } ∧
      R (.ok (.ret (.ref (s.heap.push { cls := .type "list_iterator", data := .fields #[.ref l, .int 0 0] }).objs.size)))
        { s with heap := (s.heap.push { cls := .type "list_iterator", data := .fields #[.ref l, .int 0 0] }).push { cls := .type "enumerate", data := .fields #[.none, .bool false, .ref s.heap.objs.size, rawInt c, .none, .none] } }) :=
  .of_wp fun prog w A R s h => by
    obtain ⟨hp, g, d, tk, os⟩ := s; obtain ⟨gl, h⟩ := h
    have sb := sub_enumerate
    have L : Heap.IsList (Shared.heap ⟨hp, g, d, tk, os⟩) l its := ⟨_, gl, rfl, n, rfl⟩
    wp_walk using wpAny_loadPart' gl
    refine wpAny_stack_any fun st => wpAny_pure ?_
    split
    · rename_i cc _ _ _ _ _
      cases (cc == Value.type "enumerate")
      · wp_walk using wpAny_loadPart' gl, wpAny_pyIter_list L; exact ⟨_, rfl, h⟩
      · wp_walk using wpAny_loadPart' gl, wpAny_pyIter_list L; exact ⟨_, rfl, h⟩
    · wp_walk using wpAny_loadPart' gl, wpAny_pyIter_list L; exact ⟨_, rfl, h⟩
section
variable {prog : Program} {w : World} {A : Around} {E : Value → Shared → Prop} {s : Shared}
theorem callT_kw {T nid iid : String} {Bn Bi : Builtin} {args : List Value} {kw : List (Str × Value)} {S : Spec} {Q Q₁ : Value → Shared → Prop} (ft : TypeCalled T nid iid)
    (ct : checkTypeCall T ⟨args, kw⟩ = pure ()) (cn : checkBuiltinCall nid ⟨.type T :: args, kw⟩ = pure ())
    (eN : entryFor table nid = some Bn) (eI : entryFor table iid = some Bi) (m : Meets (Bn ⟨.type T :: args, kw⟩) S) (h : S A.in1 (wants Q₁ E) s)
    (nx : ∀ y s₁, Q₁ y s₁ → s₁.TypeIs y T ∧ argsOk iid ⟨y :: args, kw⟩ ∧ ∃ Si, Meets (Bi ⟨y :: args, kw⟩) Si ∧ Si A.in1 (wants (fun r s₂ => r = .none ∧ Q y s₂) E) s₁) :
    wpAny (model prog w) A (call (.type T) args kw) Q E s := by
  obtain ⟨c0, tl0, mro0⟩ := ft.mro
  have made0 := ft.made
  have sub0 := ft.sub
  refine wpAny_call (codeAny_of_tree ?_)
  show wpAny _ _ (callAny (.type T) _) _ _ _
  refine wpAny_pure ⟨Code.quiet_builtin _ (by decide +kernel), codeAny_builtin F.entry_type_call ?_⟩
  rw [Around.under_plain (weight_type_call_type T args kw) (units_type_call_type T args kw)]
  have nt0 := ft.notType
  have cc0 := ft.canCreate
  repeat (any_goals (first | assumption | wp_step))
  refine codeAny_mono (codeAny_call_builtin ft.plain eN (wpAny_of_eq cn (m prog w A.in1 _ s h))) fun r s₁ hr => ?_
  cases r with
  | error e => exact hr
  | ok fl =>
    cases fl with
    | ret y =>
      obtain ⟨ty, ok, Si, mi, hi⟩ := nx _ _ hr
      have li0 := ft.init.lookup
      have bi0 := ft.init.bind y
      repeat (any_goals (first | assumption | wp_step))
      refine codeAny_mono (codeAny_call_builtin ft.init.plain eI (ft.init.check _ _ _ _ _ _ _ _ ty ok (mi prog w A.in1 _ s₁ hi))) fun r2 s2 h2 => ?_
      cases r2 with
      | error e => exact h2
      | ok f2 =>
        cases f2 with
        | ret r =>
          obtain ⟨rfl, q⟩ := h2
          repeat (any_goals (first | assumption | wp_step))
        | _ => exact h2.elim
    | _ => exact hr.elim
theorem call_enumK {l : Addr} {its : Array Value} {c : Int} {t : Tok} {Q : Value → Shared → Prop} (h0 : 0 ≤ c) (h63 : c < 2 ^ 63) (L : s.heap.IsList l its)
    (h : ∀ h', IsEnum h' (s.heap.objs.size + 1) s.heap.objs.size c .none → h'.IsListIter s.heap.objs.size l 0 → h'.objs.size = s.heap.objs.size + 2 →
      (∀ b o, s.heap.get? b = some o → h'.get? b = some o) → Q (.ref (s.heap.objs.size + 1)) { s with heap := h' }) :
    wpAny (model prog w) A (call (.type "enumerate") [.ref l] [("start", .int c t)]) Q E s := by
  obtain ⟨⟨cl, dct, dt, sl⟩, gl, hc, n, hd⟩ := L
  replace hc : cl = .type "list" := hc
  replace hd : dt = .seq its n := hd
  subst hc hd
  refine callT_kw (Q₁ := fun y s₁ => s₁.TypeIs y "enumerate" ∧ Q y s₁) F.called_enumerate (tc_enumK _ _) (nc_enumK _ _) F.entry_enumerate_new F.entry_object_init (meets_enumK l its n dct sl c t (fits_of h0 h63)) ⟨gl, ?_⟩
    fun y _ q => ⟨q.1, ia_enumK y _ _, _, oinit_kw F.called_enumerate.init.lookup F.called_enumerate.made (by decide) (by simp), q.1, rfl, q.2⟩
  generalize e1 : s.heap.push { cls := .type "list_iterator", data := .fields #[.ref l, .int 0 0] } = k1
  have z1 : k1.objs.size = s.heap.objs.size + 1 := by rw [← e1]; exact Heap.size_push ..
  have g1 : k1.get? s.heap.objs.size = some { cls := .type "list_iterator", data := .fields #[.ref l, .int 0 0] } := by rw [← e1]; exact Heap.get?_push_size _ rfl
  have o1 : ∀ b o, s.heap.get? b = some o → k1.get? b = some o := fun b o x => by rw [← e1]; exact Heap.get?_push_of_some _ x
  show _ ∧ _
  rw [z1]
  have he : IsEnum (k1.push { cls := .type "enumerate", data := .fields #[.none, .bool false, .ref s.heap.objs.size, rawInt c, .none, .none] }) (s.heap.objs.size + 1) s.heap.objs.size c .none := by
    have y := Heap.get?_push_size k1 (o := { cls := .type "enumerate", data := .fields #[.none, .bool false, .ref s.heap.objs.size, rawInt c, .none, .none] }) rfl
    rw [z1] at y
    exact y
  exact ⟨⟨_, he, rfl⟩, h _ he ⟨_, Heap.get?_push_of_some _ g1, rfl, rfl⟩ (by rw [Heap.size_push, z1]) fun b o x => Heap.get?_push_of_some _ (o1 b o x)⟩
end
end PySem

set_option Elab.async false
set_option linter.all false
set_option maxRecDepth 100000
set_option maxHeartbeats 4000000
namespace L2
open PySem PySem.Spec PyProof.Rows
/-! ## enumerate(xs, start=n) -/
def IteS (K : PySem.W.Frag) (a : Addr) (c : Int) : It :=
  ⟨fun i H => ∃ xs x, SqL K H a xs ∧ xs[i]? = some x, fun i H x H' => ∃ p y, x = .ref p ∧ Same H H' ∧ H p = none ∧ H' p = some (.tup [.int (c + i), y]) ∧ ∀ xs, SqL K H a xs → xs[i]? = some y, fun i H => ∃ xs, SqL K H a xs ∧ xs.length ≤ i⟩
theorem turn_enumS {P : Program} {w : World} {K : PySem.W.Frag} {elts : List Expr} {x1} {pos : Pos} (c : Int) (a e it : Addr) (hne : e ≠ it) :
    Turn P w K (.Tuple elts x1 pos) (IteS K a c) [e, it] e (fun i h => (∃ old, IsEnum h e it (c + i) old) ∧ h.IsListIter it a i) where
  mem := by simp
  obj := fun i h st b hb => by
    obtain ⟨⟨old, he⟩, o, ho, c, d⟩ := st
    rcases List.mem_cons.mp hb with rfl | hb
    · exact ⟨_, he, fun v z => by
        have z' : Data.fields _ = Data.cell v := z
        cases z'⟩
    · have e : b = it := by simpa using hb
      subst e
      exact ⟨o, ho, fun v z => by rw [d] at z; cases z⟩
  keep := fun i h h' st k => ⟨let ⟨old, he⟩ := st.1; ⟨old, k e (by simp) _ he⟩, st.2.at fun o q => k it (by simp) o q⟩
  item := by
    intro X hP hw hK hc i pins s σ H E I hf st hg
    subst hP hw hK
    obtain ⟨xs, x, hq, hx⟩ := hg
    obtain ⟨its, rv, p, hz⟩ := I.list hq
    obtain ⟨u, hu, ru⟩ := rv.get hx
    obtain ⟨⟨old, he⟩, hit⟩ := st
    have el : e < s.heap.objs.size := Heap.lt_size he
    have il : it < s.heap.objs.size := by obtain ⟨o, y, _⟩ := id hit; exact Heap.lt_size y
    refine enumS_next he hit p.isList (x := u) (by simpa using hu) hne fun h' ho hit' hT hsz hk => ?_
    refine ⟨_, rfl, wpAny_letOwnedTupleGo_enum ho fun h'' he'' hs'' => ?_⟩
    have fr : H s.heap.objs.size = none := I.hok.fresh (Nat.le_refl _)
    have I1 : Inv X pins σ (upd H s.heap.objs.size (.tup [.int (c + i), x])) { s with heap := s.heap.push { cls := .type "tuple", data := .seq #[.int (c + i) s.toks, u] }, toks := s.toks } :=
      I.laid (fun b o q => Heap.get?_push_of_some _ q) (Nat.le_refl _) ⟨by show 2 ≤ sizeLine; decide, [.int (c + i) s.toks, u], .cons ⟨_, rfl⟩ (.cons ru .nil), _, Heap.get?_push_size _ rfl, rfl, _, rfl⟩
    have hf1 : ∀ b ∈ [e, it], FpOk X pins (upd H s.heap.objs.size (.tup [.int (c + i), x])) b := fun b hb => by
      have nb : b ≠ s.heap.objs.size := by
        simp only [List.mem_cons, List.not_mem_nil, or_false] at hb
        rcases hb with rfl | rfl
        · exact Nat.ne_of_lt el
        · exact Nat.ne_of_lt il
      exact ⟨by rw [upd_ne nb]; exact (hf b hb).1, (hf b hb).2⟩
    have I2 : Inv X pins σ (upd H s.heap.objs.size (.tup [.int (c + i), x])) { s with heap := h'', toks := s.toks + 1 } := by
      refine Inv.turnedL (s := { s with heap := s.heap.push { cls := .type "tuple", data := .seq #[.int (c + i) s.toks, u] }, toks := s.toks }) (fp := [e, it]) I1 (fun b o hb q => ?_) hf1
      have q : (s.heap.push { cls := .type "tuple", data := .seq #[.int (c + i) s.toks, u] }).get? b = some o := q
      simp only [List.mem_cons, List.not_mem_nil, or_false, not_or] at hb
      refine hs''.extBut b o hb.1 ?_
      rcases Heap.get?_push_cases q with ⟨e1, e2⟩ | q'
      · subst e1 e2
        exact hT
      · exact hk b o hb.1 hb.2 q'
    have en : c + (i : Int) + 1 = c + ((i + 1 : Nat) : Int) := by omega
    refine ⟨.ref s.heap.objs.size, _, I2, rfl, ⟨_, x, rfl, same_new fr _, fr, upd_same, fun ys hy => by rw [I.list_inj hy hq]; exact hx⟩, ⟨⟨_, by rw [← en]; exact he''⟩, hit'.extBut hs''.extBut (Ne.symm hne)⟩, fun b hb => (hf1 b hb).1⟩
  done := by
    intro X hP hw hK hc i pins s σ H E I hf st hg
    subst hP hw hK
    obtain ⟨xs, hq, hx⟩ := hg
    obtain ⟨its, rv, p, hz⟩ := I.list hq
    obtain ⟨f0, f1, f2, f3, f4, f5⟩ := hf it (by simp)
    obtain ⟨⟨old, he⟩, hit⟩ := st
    have hl := rv.length
    exact enumS_end (I.ok.hd hc) he hit p.isList (by simp; omega) fun h' eb => ⟨rfl, I.turned (t' := s.toks) (fun b o hb e => eb b o hb e) f0 f1 f3 f4 f5⟩
  self := fun _ _ _ _ _ st h => let ⟨_, he⟩ := st.1; wpAny_pyIter_enum he h
section
variable {M : Model} {A : Around} {E : Value → Shared → Prop} {s : Shared} {env : Env}
theorem callWithT_kw {pos : Pos} {T : String} {e : Expr} {rest : List Expr} {ks : List Keyword} {Q : Value → Shared → Prop}
    (h : wpAny M A (spliced (backTo pos (starEach (e :: rest) env))) (fun us s₁ => wpAny M A (evalAll ((backToKw pos (keywordEach ks env)).map (·.2)))
      (fun ws s₂ => wpAny M A (call (.type T) us (((backToKw pos (keywordEach ks env)).filterMap (·.1)).zip ws)) Q E s₂) E s₁) E s)
    (he : backTo pos (starEach (e :: rest) env) = (false, eval e env) :: backTo pos (starEach rest env))
    (pl : (backTo pos (starEach (e :: rest) env)).any (·.1) = false)
    (al : (backToKw pos (keywordEach ks env)).all (·.1.isSome) = true)
    (nn : (backToKw pos (keywordEach ks env)).any (·.1.isNone) = false) :
    wpAny M A (callWith pos (.type T) [] (backTo pos (starEach (e :: rest) env)) (backToKw pos (keywordEach ks env))) Q E s := by
  unfold callWith
  have k : wpAny M A (evalArgs (.type T) true (backTo pos (starEach (e :: rest) env)) (backToKw pos (keywordEach ks env))) (fun a s₁ => wpAny M A (call (.type T) ([] ++ a.pos) a.kw) Q E s₁) E s := by
    rw [he] at h ⊢
    exact evalArgs_kwB al h
  refine wpAny_bind (wpAny_holding (wpAny_mono k (fun a s1 h1 => wpAny_bind (wpAny_standAt ?_)) fun _ _ x => x))
  simp only [pl, nn, Bool.or_false]
  refine wpAny_bind (wpAny_pure ?_)
  exact wpAny_bind (wpAny_mono h1 (fun r s2 hr => wpAny_bind (wpAny_holding (wpAny_point (wpAny_pure hr)))) fun _ _ x => x)
end
def iEnumS (K : PySem.W.Frag) (ta : TA) (te : TE) : TI := fun σ H R => ta σ H fun vs H1 => te σ H1 fun v H2 => ∃ a c, vs = [.ref a] ∧ v = .int c ∧ 0 ≤ c ∧ c < 2 ^ 63 ∧ (∃ xs, SqL K H2 a xs) ∧ R (IteS K a c) H2
theorem pi_enumS {X : Cx} {elts : List Expr} {x1} {pos' : Pos} {a b : Expr} {ta : TA} {te : TE} {p kp pos : Pos} (hg : Gl X "enumerate") (hm : X.mg "enumerate" = none) (ha : PA X [a] ta) (hb : PE X b te)
    (hst : backTo pos (starEach [a] X.env) = (false, eval a X.env) :: backTo pos (starEach [] X.env) := by rfl) :
    PI X (.Tuple elts x1 pos') (.Call (.Name "enumerate" p) [a] [⟨some "start", b, kp⟩] pos) (iEnumS X.K ta te) := by
  with_unfolding_all
    intro pins s σ H R I h
    refine wpAny_Call_Name_kw (ld_blt I hg hm bt_enumerate ?_)
    refine callWithT_kw (thn (ha pos pins s σ H _ I h) fun us s1 ⟨vs, H1, I1, r1, q1⟩ => ?_) hst (by rw [hst]; rfl) rfl rfl
    refine kws_cons (thn (hb pins s1 σ H1 _ I1 q1) fun u s2 ⟨v, H2, I2, rv, q2⟩ => kws_nil ?_)
    obtain ⟨l, c, e, e', h0, h1, ⟨xs, hq⟩, q⟩ := q2
    subst e e'
    obtain ⟨t, rfl⟩ := rv
    cases r1 with
    | cons r rr =>
      cases rr
      cases r
      obtain ⟨its, rv, pl, hz⟩ := I2.list hq
      refine call_enumK h0 h1 pl.isList fun h' he hit hsz hk => ?_
      refine wpAny_pyIter_enum he ?_
      have I3 : Inv X pins σ H2 { s2 with heap := h', toks := s2.toks } := I2.kept hk
      refine ⟨s2.heap.objs.size + 1, [s2.heap.objs.size + 1, s2.heap.objs.size], _, _, H2, rfl, I3, turn_enumS c l _ _ (Nat.succ_ne_self _), ⟨⟨_, by simpa using he⟩, hit⟩, fun b hb => ?_, q⟩
      simp only [List.mem_cons, List.not_mem_nil, or_false] at hb
      rcases hb with rfl | rfl
      · exact I2.fpOk (Nat.le_succ _) (I2.hok.fresh (Nat.le_succ _))
      · exact I2.fpOk (Nat.le_refl _) (I2.hok.fresh (Nat.le_refl _))
theorem for_enumS {K : PySem.W.Frag} {a : Addr} {c : Int} {xs : List V} {g : TG} {tb : TS} {D : Ends} {σ : St} {H : Hp} (Pv : Nat → St → Hp → Prop) (h0 : Pv 0 σ H) (hl : ∀ i σ H, i ≤ xs.length → Pv i σ H → SqL K H a xs)
    (hs : ∀ i x σ H p H1, xs[i]? = some x → Pv i σ H → Same H H1 → H p = none → H1 p = some (.tup [.int (c + i), x]) → g (.ref p) σ H1 fun σ2 H2 => tb { D with nx := Pv (i + 1), ct := Pv (i + 1), bk := D.nx } σ2 H2) (hd : ∀ σ H, Pv xs.length σ H → D.nx σ H) :
    ∃ W : Nat → Nat → St → Hp → Prop, (∃ m, W 0 m σ H) ∧ ∀ i m σ H, W i m σ H →
      ((IteS K a c).stop i H ∧ D.nx σ H) ∨ ((IteS K a c).go i H ∧ ∃ N : St → Hp → Prop, (∀ σ' H', N σ' H' → ∃ m', m' < m ∧ W (i + 1) m' σ' H') ∧ ∀ x H', (IteS K a c).yld i H x H' → g x σ H' fun σ2 H2 => tb { D with nx := N, ct := N, bk := D.nx } σ2 H2) := by
  refine ⟨fun i m σ H => m = xs.length - i ∧ i ≤ xs.length ∧ Pv i σ H, ⟨xs.length, by simp, Nat.zero_le _, h0⟩, ?_⟩
  rintro i m σ H ⟨rfl, hi, p⟩
  have q := hl i σ H hi p
  by_cases hlt : i < xs.length
  · refine .inr ⟨⟨xs, xs[i], q, by simp [hlt]⟩, Pv (i + 1), fun σ' H' p' => ⟨xs.length - (i + 1), by omega, rfl, hlt, p'⟩, fun x H' y => ?_⟩
    obtain ⟨pp, y', rfl, sm, n0, h1, y⟩ := y
    exact hs i y' σ H pp H' (y xs q) p sm n0 h1
  · have e : i = xs.length := by omega
    subst e
    exact .inl ⟨⟨xs, q, Nat.le_refl _⟩, hd σ H p⟩
/-! ## zip(xs, ys) -/
def Itz (K : PySem.W.Frag) (a b : Addr) : It :=
  ⟨fun i H => ∃ xs ys x y, SqL K H a xs ∧ SqL K H b ys ∧ xs[i]? = some x ∧ ys[i]? = some y,
   fun i H x H' => ∃ p y z, x = .ref p ∧ Same H H' ∧ H p = none ∧ H' p = some (.tup [y, z]) ∧ (∀ xs, SqL K H a xs → xs[i]? = some y) ∧ ∀ ys, SqL K H b ys → ys[i]? = some z,
   fun i H => ∃ xs ys, SqL K H a xs ∧ SqL K H b ys ∧ (xs.length ≤ i ∨ ys.length ≤ i)⟩
structure Zap (z TI TO i1 i2 : Addr) : Prop where
  n1 : TI ≠ z
  n2 : TO ≠ z
  n3 : i1 ≠ z
  n4 : i2 ≠ z
  n5 : TI ≠ TO
  n6 : TI ≠ i1
  n7 : TI ≠ i2
  n8 : TO ≠ i1
  n9 : TO ≠ i2
  n0 : i1 ≠ i2
def ZSt (z TI TO i1 i2 a b : Addr) (i : Nat) (h : Heap) : Prop :=
  IsZip h z TI TO .none ∧ IsPair h TI (.ref i1) (.ref i2) ∧ (∃ u v, IsPair h TO u v) ∧ h.IsListIter i1 a i ∧ h.IsListIter i2 b i
theorem ncls {h : Heap} {a b : Addr} {o o' : Obj} {n m : String} (h1 : h.get? a = some o) (h2 : h.get? b = some o') (c1 : o.cls = .type n) (c2 : o'.cls = .type m) (ne : n ≠ m) : a ≠ b := fun e => by
  subst e
  rw [h1] at h2
  cases h2
  rw [c1] at c2
  exact ne (by injection c2)
theorem zap_of {h : Heap} {z TI TO i1 i2 a b : Addr} {i : Nat} {xs ys : Array Value} (D : Zap z TI TO i1 i2) (st : ZSt z TI TO i1 i2 a b i h) (l1 : h.IsList a xs) (l2 : h.IsList b ys) : ZipApart z TI TO i1 i2 a b := by
  obtain ⟨g1, g2, ⟨u, v, g3⟩, ⟨o4, g4, c4, _⟩, ⟨o5, g5, c5, _⟩⟩ := st
  obtain ⟨o6, g6, c6, _⟩ := l1
  obtain ⟨o7, g7, c7, _⟩ := l2
  exact ⟨D.n1, D.n2, D.n3, D.n4, D.n5, D.n6, D.n7, D.n8, D.n9, D.n0, ncls g6 g1 c6 rfl (by decide), ncls g6 g3 c6 rfl (by decide), ncls g6 g4 c6 c4 (by decide), ncls g6 g5 c6 c5 (by decide),
    ncls g7 g1 c7 rfl (by decide), ncls g7 g3 c7 rfl (by decide), ncls g7 g4 c7 c4 (by decide), ncls g7 g5 c7 c5 (by decide)⟩
theorem turn_zip {P : Program} {w : World} {K : PySem.W.Frag} {elts : List Expr} {x1} {pos : Pos} (z TI TO i1 i2 a b : Addr) (D : Zap z TI TO i1 i2) :
    Turn P w K (.Tuple elts x1 pos) (Itz K a b) [z, TI, TO, i1, i2] z (ZSt z TI TO i1 i2 a b) where
  mem := by simp
  obj := fun i h st d hd => by
    obtain ⟨g1, g2, ⟨u, v, g3⟩, ⟨o4, g4, c4, d4⟩, ⟨o5, g5, c5, d5⟩⟩ := st
    simp only [List.mem_cons, List.not_mem_nil, or_false] at hd
    rcases hd with rfl | rfl | rfl | rfl | rfl
    · exact ⟨_, g1, fun v q => by have q' : Data.fields _ = Data.cell v := q; cases q'⟩
    · exact ⟨_, g2, fun v q => by have q' : Data.seq _ _ = Data.cell v := q; cases q'⟩
    · exact ⟨_, g3, fun v q => by have q' : Data.seq _ _ = Data.cell v := q; cases q'⟩
    · exact ⟨_, g4, fun v q => by rw [d4] at q; cases q⟩
    · exact ⟨_, g5, fun v q => by rw [d5] at q; cases q⟩
  keep := fun i h h' st k => by
    obtain ⟨g1, g2, ⟨u, v, g3⟩, g4, g5⟩ := st
    exact ⟨k z (by simp) _ g1, k TI (by simp) _ g2, ⟨u, v, k TO (by simp) _ g3⟩, g4.at fun o q => k i1 (by simp) o q, g5.at fun o q => k i2 (by simp) o q⟩
  item := by
    intro X hP hw hK hc i pins s σ H E I hf st hg
    subst hP hw hK
    obtain ⟨xs, ys, x, y, hq, hq', hx, hy⟩ := hg
    obtain ⟨its, rv, p, _⟩ := I.list hq
    obtain ⟨its', rv', p', _⟩ := I.list hq'
    obtain ⟨u, hu, ru⟩ := rv.get hx
    obtain ⟨u', hu', ru'⟩ := rv'.get hy
    have Z := zap_of D st p.isList p'.isList
    obtain ⟨g1, g2, ⟨o1, o2, g3⟩, g4, g5⟩ := st
    have lt : ∀ b ∈ [z, TI, TO, i1, i2], b < s.heap.objs.size := fun b hb => by
      simp only [List.mem_cons, List.not_mem_nil, or_false] at hb
      rcases hb with rfl | rfl | rfl | rfl | rfl
      · exact Heap.lt_size g1
      · exact Heap.lt_size g2
      · exact Heap.lt_size g3
      · obtain ⟨o, q, _⟩ := id g4; exact Heap.lt_size q
      · obtain ⟨o, q, _⟩ := id g5; exact Heap.lt_size q
    refine wpAny_pyNext_zip_item Z g1 g2 g3 g4 g5 p.isList p'.isList (x := u) (y := u') (by simpa using hu) (by simpa using hu') fun h' a1 a2 a3 a4 a5 a6 hk => ?_
    refine ⟨_, rfl, wpAny_letOwnedTupleGo_zip a1 fun h'' he'' hs'' => ?_⟩
    have fr : H s.heap.objs.size = none := I.hok.fresh (Nat.le_refl _)
    have I1 : Inv X pins σ (upd H s.heap.objs.size (.tup [x, y])) { s with heap := s.heap.push { cls := .type "tuple", data := .seq #[u, u'] }, toks := s.toks } :=
      I.laid (fun b o q => Heap.get?_push_of_some _ q) (Nat.le_refl _) ⟨by show 2 ≤ sizeLine; decide, [u, u'], .cons ru (.cons ru' .nil), _, Heap.get?_push_size _ rfl, rfl, _, rfl⟩
    have hf1 : ∀ b ∈ [z, TI, TO, i1, i2], FpOk X pins (upd H s.heap.objs.size (.tup [x, y])) b := fun b hb => ⟨by rw [upd_ne (Nat.ne_of_lt (lt b hb))]; exact (hf b hb).1, (hf b hb).2⟩
    have I2 : Inv X pins σ (upd H s.heap.objs.size (.tup [x, y])) { s with heap := h'', toks := s.toks } := by
      refine Inv.turnedL (s := { s with heap := s.heap.push { cls := .type "tuple", data := .seq #[u, u'] }, toks := s.toks }) (fp := [z, TI, TO, i1, i2]) I1 (fun b o hb q => ?_) hf1
      have q : (s.heap.push { cls := .type "tuple", data := .seq #[u, u'] }).get? b = some o := q
      simp only [List.mem_cons, List.not_mem_nil, or_false, not_or] at hb
      refine hs''.extBut b o hb.1 ?_
      rcases Heap.get?_push_cases q with ⟨e1, e2⟩ | q'
      · subst e1 e2
        exact a5
      · exact hk b o hb.1 hb.2.2.1 hb.2.2.2.1 hb.2.2.2.2 q'
    refine ⟨.ref s.heap.objs.size, _, I2, rfl, ⟨_, x, y, rfl, same_new fr _, fr, upd_same, fun l hl => by rw [I.list_inj hl hq]; exact hx, fun l hl => by rw [I.list_inj hl hq']; exact hy⟩,
      ⟨he'', hs''.extBut _ _ D.n1 (hk _ _ D.n1 D.n5 D.n6 D.n7 g2), ⟨_, _, hs''.extBut _ _ D.n2 a2⟩, a3.extBut hs''.extBut D.n3, a4.extBut hs''.extBut D.n4⟩, fun b hb => (hf1 b hb).1⟩
  done := by
    intro X hP hw hK hc i pins s σ H E I hf st hg
    subst hP hw hK
    obtain ⟨xs, ys, hq, hq', hx⟩ := hg
    obtain ⟨its, rv, p, _⟩ := I.list hq
    obtain ⟨its', rv', p', _⟩ := I.list hq'
    have Z := zap_of D st p.isList p'.isList
    obtain ⟨g1, g2, ⟨o1, o2, g3⟩, g4, g5⟩ := st
    have hl := rv.length
    have hl' := rv'.length
    refine wpAny_pyNext_zip_end (I.ok.hd hc) Z g1 g2 g3 g4 g5 p.isList p'.isList (hx.imp (fun q => by simp; omega) fun q => by simp; omega) fun h' eb => ⟨rfl, ?_⟩
    refine Inv.turnedL (s := s) (t' := s.toks) (fp := [z, TI, TO, i1, i2]) I (fun b o hb q => ?_) hf
    simp only [List.mem_cons, List.not_mem_nil, or_false, not_or] at hb
    exact eb b o hb.1 hb.2.2.1 hb.2.2.2.1 hb.2.2.2.2 q
  self := fun _ _ _ _ _ st h => wpAny_pyIter_zip st.1 h
theorem bt_zip : bootBuiltins "zip" = some (.type "zip") := by decide +kernel
def iZip (K : PySem.W.Frag) (ta : TA) : TI := fun σ H R => ta σ H fun vs H1 => ∃ a b, vs = [.ref a, .ref b] ∧ (∃ xs, SqL K H1 a xs) ∧ (∃ ys, SqL K H1 b ys) ∧ R (Itz K a b) H1
theorem pi_zip {X : Cx} {elts : List Expr} {x1} {pos' : Pos} {a b : Expr} {ta : TA} {p pos : Pos} (hg : Gl X "zip") (hm : X.mg "zip" = none) (ha : PA X [a, b] ta) (hs : starEach [a, b] X.env = (false, eval a X.env) :: starEach [b] X.env := by rfl) (hp : (backTo pos (starEach [b] X.env)).any (·.1) = false := by rfl) :
    PI X (.Tuple elts x1 pos') (.Call (.Name "zip" p) [a, b] [] pos) (iZip X.K ta) := by
  with_unfolding_all
    intro pins s σ H R I h
    refine Call_ (ld_blt I hg hm bt_zip (PyProof.Rows.callWith_type1 (thn (ha pos pins s σ H _ I h) fun us s1 ⟨vs, H1, I1, r1, q1⟩ => ?_) hs hp))
    obtain ⟨l, l', e, ⟨xs, hq⟩, ⟨ys, hq'⟩, q⟩ := q1
    subst e
    cases r1 with
    | cons r rr =>
      cases r
      cases rr with
      | cons r rr =>
        cases rr
        cases r
        obtain ⟨its, rv, pl, _⟩ := I1.list hq
        obtain ⟨its', rv', pl', _⟩ := I1.list hq'
        refine call_zip_2 pl.isList pl'.isList fun h' a1 a2 a3 a4 a5 a6 hk => ?_
        refine wpAny_pyIter_zip a1 ?_
        have I2 : Inv X pins σ H1 { s1 with heap := h', toks := s1.toks } := I1.kept hk
        have D : Zap (s1.heap.objs.size + 4) (s1.heap.objs.size + 2) (s1.heap.objs.size + 3) s1.heap.objs.size (s1.heap.objs.size + 1) := by
          constructor <;> (intro z; have z' := congrArg (fun (n : Addr) => (n : Nat)) z; simp at z')
        refine ⟨s1.heap.objs.size + 4, [s1.heap.objs.size + 4, s1.heap.objs.size + 2, s1.heap.objs.size + 3, s1.heap.objs.size, s1.heap.objs.size + 1], _, _, H1, rfl, I2, turn_zip _ _ _ _ _ l l' D, ⟨a1, a2, ⟨_, _, a3⟩, a4, a5⟩, fun b hb => ?_, q⟩
        have le : s1.heap.objs.size ≤ b := by
          simp only [List.mem_cons, List.not_mem_nil, or_false] at hb
          rcases hb with rfl | rfl | rfl | rfl | rfl
          · exact Nat.le_add_right _ 4
          · exact Nat.le_add_right _ 2
          · exact Nat.le_add_right _ 3
          · exact Nat.le_refl _
          · exact Nat.le_add_right _ 1
        exact I1.fpOk le (I1.hok.fresh le)
theorem for_zip {K : PySem.W.Frag} {a b : Addr} {xs ys : List V} {g : TG} {tb : TS} {D : Ends} {σ : St} {H : Hp} (Pv : Nat → St → Hp → Prop) (h0 : Pv 0 σ H) (hl : ∀ i σ H, Pv i σ H → SqL K H a xs ∧ SqL K H b ys)
    (hs : ∀ i x y σ H p H1, xs[i]? = some x → ys[i]? = some y → Pv i σ H → Same H H1 → H p = none → H1 p = some (.tup [x, y]) → g (.ref p) σ H1 fun σ2 H2 => tb { D with nx := Pv (i + 1), ct := Pv (i + 1), bk := D.nx } σ2 H2) (hd : ∀ σ H, Pv (min xs.length ys.length) σ H → D.nx σ H) :
    ∃ W : Nat → Nat → St → Hp → Prop, (∃ m, W 0 m σ H) ∧ ∀ i m σ H, W i m σ H →
      ((Itz K a b).stop i H ∧ D.nx σ H) ∨ ((Itz K a b).go i H ∧ ∃ N : St → Hp → Prop, (∀ σ' H', N σ' H' → ∃ m', m' < m ∧ W (i + 1) m' σ' H') ∧ ∀ x H', (Itz K a b).yld i H x H' → g x σ H' fun σ2 H2 => tb { D with nx := N, ct := N, bk := D.nx } σ2 H2) := by
  refine ⟨fun i m σ H => m = min xs.length ys.length - i ∧ i ≤ min xs.length ys.length ∧ Pv i σ H, ⟨min xs.length ys.length, by simp, Nat.zero_le _, h0⟩, ?_⟩
  rintro i m σ H ⟨rfl, hi, p⟩
  obtain ⟨q, q'⟩ := hl i σ H p
  by_cases hlt : i < min xs.length ys.length
  · have h1 : i < xs.length := by omega
    have h2 : i < ys.length := by omega
    refine .inr ⟨⟨xs, ys, xs[i], ys[i], q, q', by simp [h1], by simp [h2]⟩, Pv (i + 1), fun σ' H' p' => ⟨min xs.length ys.length - (i + 1), by omega, rfl, hlt, p'⟩, fun x H' y => ?_⟩
    obtain ⟨pp, y', z', rfl, sm, n0, h1, y, z⟩ := y
    exact hs i y' z' σ H pp H' (y xs q) (z ys q') p sm n0 h1
  · have e : i = min xs.length ys.length := by omega
    subst e
    exact .inl ⟨⟨xs, ys, q, q', by omega⟩, hd σ H p⟩
theorem comp_zip {K : PySem.W.Frag} {a b : Addr} {xs ys : List V} {g : TG} {js : List Nat} {tc : TT} {te : TE} {σ : St} {H1 : Hp} {Q : VK} (f : Nat → V) (hl : SqL K H1 a xs) (hl' : SqL K H1 b ys) (hn : ys.length = xs.length)
    (hg : ∀ p x y Hh os (R : St → Hp → Prop), Hh p = some (.tup [x, y]) → os.length = 2 → R ([some x, some y] ++ caps σ js) Hh → g (.ref p) (os ++ caps σ js) Hh R)
    (ht : ∀ x y Hh (Q' : Bool → Hp → Prop), Q' true Hh → tc ([some x, some y] ++ caps σ js) Hh Q')
    (he : ∀ i x y Hh (Q' : VK), xs[i]? = some x → ys[i]? = some y → Same H1 Hh → (∀ Hh', Same Hh Hh' → Q' (f i) Hh') → te ([some x, some y] ++ caps σ js) Hh Q')
    (hz : xs.length < sizeLine) (q : ∀ D H2, Same H1 H2 → H1 D = none → H2 D = some (.lst ((List.range xs.length).map f)) → Q (.ref D) H2) :
    CompGoT (Itz K a b) 2 g js tc te σ H1 Q := by
  intro D H2 s2 hD h2
  refine ⟨fun i m acc H3 => m = xs.length - i ∧ i ≤ xs.length ∧ acc = (List.range i).map f ∧ Same H1 H3 ∧ H3 D = some (.lst acc), ⟨_, rfl, Nat.zero_le _, by simp, s2, h2⟩, ?_⟩
  rintro i m acc H3 ⟨rfl, hi, ea, s3, h3⟩
  have hl3 : SqL K H3 a xs := s3.seq hl
  have hl3' : SqL K H3 b ys := s3.seq hl'
  have hll : acc.length = i := by rw [ea, List.length_map, List.length_range]
  refine ⟨h3, by omega, ?_⟩
  by_cases hlt : i < xs.length
  · have hx : xs[i]? = some xs[i] := List.getElem?_eq_getElem hlt
    have hy : ys[i]? = some (ys[i]'(by omega)) := List.getElem?_eq_getElem (by omega)
    refine .inr ⟨⟨xs, ys, _, _, hl3, hl3', hx, hy⟩, fun os ol y H4 z => ?_⟩
    obtain ⟨p, y', z', rfl, sm, n0, h4, ey, ez⟩ := z
    have ey2 := ey xs hl3
    have ez2 := ez ys hl3'
    refine hg p y' z' _ os _ h4 ol ⟨[some y', some z'], rfl, rfl, ?_⟩
    refine ht y' z' _ _ (iteT ?_)
    refine he i y' z' _ _ ey2 ez2 (s3.trans sm) fun H6 s6 => ⟨s6 _ _ (sm _ _ h3), fun H7 k7 h7 => ⟨xs.length - (i + 1), by omega, rfl, hlt, ?_, fun c o e => ?_, h7⟩⟩
    · rw [List.range_succ, List.map_append, ← ea]
      rfl
    · by_cases hb : c = D
      · subst hb
        rw [hD] at e
        cases e
      · exact k7 c o hb (s6 c o (sm c o (s3 c o e)))
  · have e : i = xs.length := by omega
    subst e
    exact .inl ⟨⟨xs, ys, hl3, hl3', .inl (Nat.le_refl _)⟩, q D H3 s3 hD (by rw [h3, ea])⟩
end L2

set_option Elab.async false
set_option linter.all false
set_option maxRecDepth 100000
set_option maxHeartbeats 4000000
namespace L2
open PySem PySem.Spec PyProof.Rows
/-! ## sum of a dict's values -/
def rSumV : List V → Hp → VK → Prop := fun xs H Q => ∃ (v a : Addr) (L : List (Int × Int)), xs = [.ref v] ∧ H v = some (.ext fun h => h.IsValuesView v a) ∧ H a = some (.dK (dI L)) ∧ (∀ p, p ∈ L → p.2 = 0) ∧ Q (.int 0) H
theorem bt_sum : bootBuiltins "sum" = some (.builtin "sum") := by decide +kernel
theorem preSum_zero : ∀ n, preSum (fun _ => 0) n = 0
  | 0 => rfl
  | n + 1 => by
    show preSum (fun _ => 0) n + 0 = 0
    rw [preSum_zero n]
    rfl
theorem inl0 : InLong 0 := by constructor <;> decide
theorem call_sumV {X : Cx} (hh : X.A.handled = none) : CallR X (.builtin "sum") rSumV := by
  intro pins s σ H xs us Q I r h
  obtain ⟨v, a, L, rfl, hv, ha, hL, q⟩ := h
  obtain ⟨u, rfl, ru⟩ := vals1 r
  cases ru
  obtain ⟨z, y, vs, rel, o, es, ep, ho, oc, od, rr⟩ := dk_of I.hok ha
  have lv := rel.length
  obtain ⟨wv, _, _⟩ := (show s.heap.IsValuesView v a ∧ _ from I.hok v _ hv)
  have dd : s.heap.DictAt (mixKind X.prog X.w) a vs ep := ⟨o, es, ho, oc, od, rr⟩
  refine call_sum_walk (wpAny_pyIter_values wv dd ?_)
  have la : a < s.heap.objs.size := Heap.lt_size ho
  refine ⟨s.heap.objs.size, [s.heap.objs.size, a], [s.heap.objs.size], vs.length, _, _, fun _ => 0, rfl, Walks.dictValues (A := X.A.in1) (knd := mixKind X.prog X.w) hh s.heap.objs.size a (Nat.ne_of_lt la) vs ep, ⟨⟨_, Heap.get?_push_size _ rfl, rfl, rfl⟩, dd.at' fun o e => Heap.get?_push_of_some _ e⟩, fun b hb => ?_, fun i x ⟨k, hk⟩ => ?_, fun j _ => ⟨inl0, by rw [preSum_zero]; exact inl0⟩, fun h' tk t' hk => ?_⟩
  · rw [Heap.size_push]
    simp only [List.mem_cons, List.not_mem_nil, or_false] at hb
    rcases hb with rfl | rfl
    · exact Nat.lt_succ_self _
    · exact Nat.lt_succ_of_lt la
  · have hi : i < (dI L).length := by
      rw [lv]
      exact (List.getElem?_eq_some_iff.mp hk).1
    have e1 := List.getElem?_eq_getElem hi
    have rx := (paired_get rel e1 hk).2
    have hm : (dI L)[i] ∈ dI L := List.getElem_mem hi
    unfold dI at hm
    obtain ⟨p, hp, ep'⟩ := List.mem_map.mp hm
    have e2 : (dI L)[i].2 = V.int 0 := by
      have := congrArg Prod.snd ep'
      rw [hL p hp] at this
      exact this.symm
    rw [e2] at rx
    obtain ⟨t, rfl⟩ := rx
    exact ⟨t, rfl⟩
  · rw [preSum_zero]
    refine ⟨.int 0, H, I.kept fun b o e => hk b o (fun hb => ?_) (Heap.get?_push_of_some _ e), ⟨t', rfl⟩, q⟩
    have : b = s.heap.objs.size := by simpa using hb
    exact Nat.lt_irrefl _ (this ▸ Heap.lt_size e)
end L2

set_option Elab.async false
set_option linter.all false
set_option maxRecDepth 100000
set_option maxHeartbeats 4000000
namespace L2
open PySem PySem.Spec PyProof.Rows
/-! ## no hand is idle: what holds of each row of a run -/
def lfC (c : Ch) (n : Int) : Int := ((c.find? fun k => decide (k.1.n = n)).map (·.2)).getD 0
theorem lfC_hit {k : Cl × Int} {c : Ch} {n : Int} (e : k.1.n = n) : lfC (k :: c) n = k.2 := by
  unfold lfC
  rw [List.find?_cons_of_pos (by simpa using e)]
  rfl
theorem lfC_miss {k : Cl × Int} {c : Ch} {n : Int} (e : k.1.n ≠ n) : lfC (k :: c) n = lfC c n := by
  unfold lfC
  rw [List.find?_cons_of_neg (by simpa using e)]
theorem lfC_no : ∀ {c : Ch} {n : Int}, n ∉ c.map (·.1.n) → lfC c n = 0
  | [], _, _ => rfl
  | k :: c, n, h => by
    rw [List.map_cons, List.mem_cons, not_or] at h
    rw [lfC_miss fun e => h.1 e.symm]
    exact lfC_no h.2
theorem lfC_at : ∀ {c : Ch} {k : Cl × Int}, (c.map (·.1.n)).Nodup → k ∈ c → lfC c k.1.n = k.2
  | j :: c, k, nd, hk => by
    rw [List.map_cons, List.nodup_cons] at nd
    rcases List.mem_cons.mp hk with rfl | hk
    · exact lfC_hit rfl
    · rw [lfC_miss fun e => nd.1 (by rw [e]; exact List.mem_map.mpr ⟨k, hk, rfl⟩)]
      exact lfC_at nd.2 hk
theorem lfC_pos {c : Ch} {n : Int} (h : 0 < lfC c n) : ∃ k, k ∈ c ∧ k.1.n = n ∧ k.2 = lfC c n := by
  unfold lfC at h ⊢
  cases e : c.find? fun k => decide (k.1.n = n) with
  | none => rw [e] at h; exact (Int.lt_irrefl _ h).elim
  | some k =>
    have h3 := List.find?_some e
    exact ⟨k, List.mem_of_find?_eq_some e, of_decide_eq_true h3, rfl⟩
theorem bhC_cons (ws : List Int) (k : Cl × Int) (c : Ch) : bhC ws (k :: c) = (if 0 < lessN ws k then [(k.1, lessN ws k)] else []) ++ bhC ws c := by
  unfold bhC
  rw [List.map_cons, List.filter_cons]
  by_cases e : 0 < lessN ws k
  · rw [if_pos (by simpa using e), if_pos e]
    rfl
  · rw [if_neg (by simpa using e), if_neg e]
    rfl
theorem bhC_num {ws : List Int} {c : Ch} {n : Int} (h : n ∈ (bhC ws c).map (·.1.n)) : n ∈ c.map (·.1.n) := by
  obtain ⟨k, hk, rfl⟩ := List.mem_map.mp h
  obtain ⟨j, hj, e, _⟩ := bhC_mem hk
  rw [e]
  exact List.mem_map.mpr ⟨j, hj, rfl⟩
theorem lfC_bh {ws : List Int} {n : Int} : ∀ {c : Ch}, (c.map (·.1.n)).Nodup → (∀ k, k ∈ c → 0 < k.2) → n ∈ c.map (·.1.n) → lfC (bhC ws c) n = if n ∈ ws then lfC c n - 1 else lfC c n
  | k :: c, nd, pos, hn => by
    rw [List.map_cons, List.nodup_cons] at nd
    rw [bhC_cons]
    have p := pos k List.mem_cons_self
    by_cases e : k.1.n = n
    · have no : lfC (bhC ws c) n = 0 := lfC_no fun z => nd.1 (by rw [e]; exact bhC_num z)
      have l : lessN ws k = if n ∈ ws then k.2 - 1 else k.2 := by
        unfold lessN
        rw [e]
      rw [lfC_hit e]
      by_cases g : 0 < lessN ws k
      · rw [if_pos g, List.singleton_append, lfC_hit (k := (k.1, lessN ws k)) e]
        exact l
      · rw [if_neg g, List.nil_append, no]
        rw [l] at g
        split at g <;> (rename_i w; first | rw [if_pos w] | rw [if_neg w]) <;> omega
    · have ih := lfC_bh (ws := ws) (n := n) (c := c) nd.2 (fun j hj => pos j (List.mem_cons_of_mem _ hj)) (by
        rw [List.map_cons, List.mem_cons] at hn
        exact hn.resolve_left fun z => e z.symm)
      rw [lfC_miss e, ← ih]
      split
      · rw [List.singleton_append, lfC_miss (k := (k.1, lessN ws k)) e]
      · rw [List.nil_append]
theorem lfC_bh0 {ws : List Int} {n : Int} {c : Ch} (nd : (c.map (·.1.n)).Nodup) (pos : ∀ k, k ∈ c → 0 < k.2) (hw : n ∈ ws → n ∈ c.map (·.1.n)) : lfC (bhC ws c) n = if n ∈ ws then lfC c n - 1 else lfC c n := by
  by_cases e : n ∈ c.map (·.1.n)
  · exact lfC_bh nd pos e
  · rw [if_neg fun z => e (hw z), lfC_no e, lfC_no fun z => e (bhC_num z)]
theorem lfC_first {c : Ch} (nd : (c.map (·.1.n)).Nodup) (pos : ∀ k, k ∈ c → 0 ≤ k.2) {k : Cl × Int} (hk : k ∈ c) : lfC (bhC [] c) k.1.n = k.2 := by
  rw [bhC_nil]
  by_cases e : 0 < k.2
  · exact lfC_at (nd.sublist (List.filter_sublist.map _)) (List.mem_filter.mpr ⟨hk, by simpa using e⟩)
  · have := pos k hk
    have z : k.2 = 0 := by omega
    rw [z]
    refine lfC_no fun h => ?_
    obtain ⟨j, hj, ej⟩ := List.mem_map.mp h
    obtain ⟨j1, j2⟩ := List.mem_filter.mp hj
    have : j = k := by
      have := lfC_at nd j1
      have h2 := lfC_at nd hk
      rw [ej] at this
      have e2 : j.2 = k.2 := by rw [← this, h2]
      have j3 := of_decide_eq_true j2
      omega
    subst this
    exact e (of_decide_eq_true j2)
structure RowOk (ds : List Cl) (lf : Int → Int) (h : Nat) (t : Int) (ws : List Int) : Prop where
  len : ws.length ≤ h
  nd : ws.Nodup
  inn : ∀ w, w ∈ ws → ∃ d, d ∈ ds ∧ d.n = w ∧ 1 ≤ lf w ∧ d.came ≤ t
  srt : ∀ (i : Nat) d e, ws[i]? = some d.n → ws[i + 1]? = some e.n → d ∈ ds → e ∈ ds → ahd d e t = true
  rest : ∀ d, d ∈ ds → d.n ∉ ws → 0 < lf d.n → d.came ≤ t → ws.length = h ∧ ∀ e, e ∈ ds → ws.getLast? = some e.n → ahd e d t = true
theorem nd_cl : ∀ {ds : List Cl}, (ds.map (·.n)).Nodup → ∀ {d e : Cl}, d ∈ ds → e ∈ ds → d.n = e.n → d = e
  | x :: ds, nd, d, e, hd, he, h => by
    rw [List.map_cons, List.nodup_cons] at nd
    rcases List.mem_cons.mp hd with ed | hd
    · rcases List.mem_cons.mp he with ee | he
      · rw [ed, ee]
      · exact (nd.1 (List.mem_map.mpr ⟨e, he, by rw [← ed]; exact h.symm⟩)).elim
    · rcases List.mem_cons.mp he with ee | he
      · exact (nd.1 (List.mem_map.mpr ⟨d, hd, by rw [← ee]; exact h⟩)).elim
      · exact nd_cl nd.2 hd he h
theorem row_ok {c : Ch} {ds : List Cl} {t : Int} {h : Nat} (g : GdC c) (sub : ∀ k, k ∈ c → k.1 ∈ ds) (nd : (ds.map (·.n)).Nodup) : RowOk ds (lfC c) h t (wkC t h c) := by
  have G := g.good t
  have so := ord_srt G t
  have sd : ∀ d, d ∈ ord (csC t c) t → d ∈ ds := fun d hd => by
    obtain ⟨x, hx, _⟩ := csC_mem.mp ((ord_perm _ _).mem_iff.mp hd)
    exact sub _ hx
  have at_ : ∀ (i : Nat) d, d ∈ ds → (wkC t h c)[i]? = some d.n → (ord (csC t c) t)[i]? = some d := fun i d hd e => by
    unfold wkC at e
    rw [List.getElem?_take] at e
    split at e
    · rw [List.getElem?_map] at e
      cases eo : (ord (csC t c) t)[i]? with
      | none => rw [eo] at e; cases e
      | some x =>
        rw [eo] at e
        rw [nd_cl nd (sd x (List.mem_of_getElem? eo)) hd (Option.some.inj e)]
    · cases e
  have ah : ∀ (i j : Nat) d e, i < j → (ord (csC t c) t)[i]? = some d → (ord (csC t c) t)[j]? = some e → ahd d e t = true := fun i j d e ij e1 e2 => by
    obtain ⟨h1, g1⟩ := List.getElem?_eq_some_iff.mp e1
    obtain ⟨h2, g2⟩ := List.getElem?_eq_some_iff.mp e2
    have := List.pairwise_iff_getElem.mp so i j h1 h2 ij
    rw [g1, g2] at this
    exact this
  refine ⟨?_, ?_, fun w hw => ?_, fun i d e h1 h2 hd he => ah i (i + 1) d e (Nat.lt_succ_self _) (at_ i d hd h1) (at_ (i + 1) e he h2), fun d hd hw hl hc => ?_⟩
  · unfold wkC
    rw [List.length_take]
    omega
  · unfold wkC
    exact (good_ord G t).nd.sublist (List.take_sublist _ _)
  · obtain ⟨d, hd, e, _⟩ := (wkC_mem g).mp hw
    obtain ⟨x, hx, x0, xc⟩ := csC_mem.mp hd
    have := lfC_at g.nd hx
    have this : lfC c d.n = x := this
    exact ⟨d, sub _ hx, e, by rw [← e, this]; omega, xc⟩
  · obtain ⟨k, hk, kn, kl⟩ := lfC_pos hl
    have ek : k.1 = d := nd_cl nd (sub k hk) hd kn
    have dc : d ∈ csC t c := csC_mem.mpr ⟨k.2, by rw [← ek]; exact hk, by rw [kl]; exact hl, hc⟩
    have rk : h ≤ rnk (csC t c) t d := Nat.le_of_not_lt fun z => hw ((wkC_mem g).mpr ⟨d, dc, rfl, z⟩)
    have eo := ord_rank G t dc
    have lo := (List.getElem?_eq_some_iff.mp eo).1
    have lw : (wkC t h c).length = h := by
      unfold wkC
      rw [List.length_take, List.length_map]
      omega
    refine ⟨lw, fun e he hl => ?_⟩
    rw [List.getLast?_eq_getElem?, lw] at hl
    have h0 : 0 < h := by
      rcases Nat.eq_zero_or_pos h with z | z
      · rw [z] at lw hl
        rw [List.getElem?_eq_none (by rw [lw]; exact Nat.zero_le _)] at hl
        cases hl
      · exact z
    exact ah (h - 1) _ e d (by omega) (at_ _ e he hl) eo
def dn (ws : List Int) (L : List (Int × Int)) : List (Int × Int) := L.map fun p => (p.1, if p.1 ∈ ws then p.2 - 1 else p.2)
theorem dn_nil (L : List (Int × Int)) : dn [] L = L := by
  unfold dn
  rw [show (fun p : Int × Int => (p.1, if p.1 ∈ ([] : List Int) then p.2 - 1 else p.2)) = id from funext fun p => by rw [if_neg (by simp)]; rfl, List.map_id]
theorem valI_dn {ws : List Int} {n : Int} : ∀ {L : List (Int × Int)}, valI (dn ws L) n = (valI L n).map fun v => if n ∈ ws then v - 1 else v
  | [] => rfl
  | p :: L => by
    have ih := valI_dn (ws := ws) (n := n) (L := L)
    unfold valI dn at *
    rw [List.map_cons]
    by_cases e : p.1 = n
    · rw [List.find?_cons_of_pos (by simpa using e), List.find?_cons_of_pos (by simpa using e)]
      subst e
      rfl
    · rw [List.find?_cons_of_neg (by simpa using e), List.find?_cons_of_neg (by simpa using e)]
      exact ih
theorem dn_put {ws : List Int} {w v : Int} {L : List (Int × Int)} (nd : (L.map (·.1)).Nodup) (hv : valI L w = some v) (hw : w ∉ ws) : putI (dn ws L) w (v - 1) = dn (ws ++ [w]) L := by
  have hm : ∀ p, p ∈ L → p.1 = w → p.2 = v := by
    clear hw
    induction L with
    | nil => intro p hp; cases hp
    | cons x L ih =>
      rw [List.map_cons, List.nodup_cons] at nd
      intro p hp e
      unfold valI at hv ih
      by_cases ex : x.1 = w
      · rw [List.find?_cons_of_pos (by simpa using ex)] at hv
        rcases List.mem_cons.mp hp with rfl | hp
        · exact Option.some.inj hv
        · exact (nd.1 (by rw [ex, ← e]; exact List.mem_map.mpr ⟨p, hp, rfl⟩)).elim
      · rw [List.find?_cons_of_neg (by simpa using ex)] at hv
        rcases List.mem_cons.mp hp with rfl | hp
        · exact (ex e).elim
        · exact ih nd.2 hv p hp e
  have any : ((dn ws L).any fun p => decide (p.1 = w)) = true := by
    have : ∃ p, p ∈ L ∧ p.1 = w := by
      unfold valI at hv
      cases e : L.find? fun p => decide (p.1 = w) with
      | none => rw [e] at hv; cases hv
      | some p =>
        have h3 := List.find?_some e
        exact ⟨p, List.mem_of_find?_eq_some e, of_decide_eq_true h3⟩
    obtain ⟨p, hp, e⟩ := this
    refine List.any_eq_true.mpr ⟨_, List.mem_map.mpr ⟨p, hp, rfl⟩, by simpa using e⟩
  unfold putI
  rw [if_pos any]
  unfold dn
  rw [List.map_map]
  refine List.map_congr_left fun p hp => ?_
  show (if p.1 = w then _ else _) = _
  by_cases e : p.1 = w
  · have := hm p hp e
    rw [if_pos e, if_pos (show p.1 ∈ ws ++ [w] by rw [e]; simp), this]
  · rw [if_neg e]
    have : (p.1 ∈ ws ++ [w]) ↔ p.1 ∈ ws := by simp [e]
    by_cases z : p.1 ∈ ws
    · rw [if_pos z, if_pos (this.mpr z)]
    · rw [if_neg z, if_neg fun y => z (this.mp y)]
theorem for_dict {a : Addr} {ob : Obj} {kvs : List (Key × V)} {g : TG} {tb : TS} {D : Ends} {σ : St} {H : Hp} (Pv : Nat → St → Hp → Prop) (h0 : Pv 0 σ H) (hl : ∀ i σ H, Pv i σ H → H a = some (.frz ob (.dK kvs)))
    (hs : ∀ i kv σ H, kvs[i]? = some kv → Pv i σ H → g (kV kv.1) σ H fun σ2 H2 => tb { D with nx := Pv (i + 1), ct := Pv (i + 1), bk := D.nx } σ2 H2) (hd : ∀ σ H, Pv kvs.length σ H → D.nx σ H) :
    ∃ W : Nat → Nat → St → Hp → Prop, (∃ m, W 0 m σ H) ∧ ∀ i m σ H, W i m σ H →
      ((Itd a ob kvs).stop i H ∧ D.nx σ H) ∨ ((Itd a ob kvs).go i H ∧ ∃ N : St → Hp → Prop, (∀ σ' H', N σ' H' → ∃ m', m' < m ∧ W (i + 1) m' σ' H') ∧ ∀ x H', (Itd a ob kvs).yld i H x H' → g x σ H' fun σ2 H2 => tb { D with nx := N, ct := N, bk := D.nx } σ2 H2) := by
  refine ⟨fun i m σ H => m = kvs.length - i ∧ i ≤ kvs.length ∧ Pv i σ H, ⟨kvs.length, by simp, Nat.zero_le _, h0⟩, ?_⟩
  rintro i m σ H ⟨rfl, hi, p⟩
  have q := hl i σ H p
  by_cases hlt : i < kvs.length
  · refine .inr ⟨⟨q, hlt⟩, Pv (i + 1), fun σ' H' p' => ⟨kvs.length - (i + 1), by omega, rfl, hlt, p'⟩, fun x H' y => ?_⟩
    obtain ⟨rfl, kv, hk, rfl⟩ := y
    exact hs i kv σ _ hk p
  · have e : i = kvs.length := by omega
    subst e
    exact .inl ⟨⟨q, Nat.le_refl _⟩, hd σ H p⟩
end L2

set_option Elab.async false
set_option linter.all false
set_option maxRecDepth 100000
set_option maxHeartbeats 4000000
namespace K45
open PySem L2
local macro_rules | `(tactic| walk_at "same") => `(tactic| first | exact Same.refl _ | assumption | (refine Same.trans (by assumption) ?_; walk_at "same"))
local macro_rules | `(tactic| walk_at "sq") => `(tactic| first | assumption | exact SqT.of (by assumption) | exact SqL.of (by assumption) | (refine Same.tup (by assumption) ?_; walk_at "sq") | (refine Same.seq (by assumption) ?_; walk_at "sq") | (refine Same.use (by assumption) ?_; walk_at "sq"))
local macro_rules | `(tactic| walk_at "leaf") => `(tactic| first | rfl | assumption | walk_at "sq" | (refine Or.inl ?_; walk_at "sq") | (refine Or.inr ?_; walk_at "sq") | exact sz _ (by decide) | exact ⟨by decide, by decide⟩ | exact ⟨by decide, by decide, by decide⟩ | exact Or.inl ⟨by decide, by decide⟩ | exact Or.inr ⟨by decide, by decide⟩ | (dsimp only; omega) | omega | exact Or.inl ⟨by omega, by omega⟩ | exact Or.inr ⟨by omega, by omega⟩ | exact ⟨by omega, by omega⟩ | (show (0 : Int) < _; decide))
local macro_rules | `(tactic| walk_at "rd") => `(tactic| repeat (first | apply Exists.intro | refine And.intro (by walk_at "leaf") ?_ | refine iteT ?_ | refine iteF ?_))
def top (i : Nat) : Stmt := PySem.Challenge.pw_greywait_k45_whole_no_hand_is_idle.main.body.getD i (.Pass ⟨0, 0, 0, 0⟩)
abbrev s_is_whole : Stmt := top 4
abbrev s_common_divisor : Stmt := top 6
abbrev s_common_bottom : Stmt := top 8
abbrev s_place_key : Stmt := top 9
abbrev s_claims_in_order : Stmt := top 10
abbrev s_numbers_in_order : Stmt := top 11
abbrev s_numbers_worked : Stmt := top 13
abbrev s_chores_behind : Stmt := top 14
abbrev s_turn_done : Stmt := top 15
abbrev s_work_taken : Stmt := top 16
abbrev s_chores_taken : Stmt := top 17
abbrev s_run_of : Stmt := top 18
abbrev s_are_numbers : Stmt := top 19
abbrev s_is_row_of : Stmt := top 20
abbrev s_walk_run : Stmt := top 21
abbrev s_law_cell : Stmt := top 23
abbrev s_law_mix : Stmt := top 24
abbrev s_law_draw : Stmt := top 25
abbrev s_law_weight : Stmt := top 26
abbrev s_law_begin : Stmt := top 27
abbrev s_law_chore : Stmt := top 28
abbrev s_law_chores : Stmt := top 29
abbrev s_law_weighs : Stmt := top 30
abbrev s_law_is_ahead : Stmt := top 31
abbrev s_law_works : Stmt := top 32
abbrev s_law_row_right : Stmt := top 33
abbrev s_law : Stmt := top 34
structure Txt (K : PySem.W.Frag) (mg : Str → Option Value) : Prop where
  b_all : mg "all" = none
  b_bool : mg "bool" = none
  b_enumerate : mg "enumerate" = none
  b_int : mg "int" = none
  b_isinstance : mg "isinstance" = none
  b_len : mg "len" = none
  b_list : mg "list" = none
  b_max : mg "max" = none
  b_min : mg "min" = none
  b_range : mg "range" = none
  b_sorted : mg "sorted" = none
  b_sum : mg "sum" = none
  b_tuple : mg "tuple" = none
  b_zip : mg "zip" = none
  q_int_int : PySem.W.kitOne K (.type "int") (.type "int") = some true
  q_int_bool : PySem.W.kitOne K (.type "int") (.type "bool") = some false
  q_list_list : PySem.W.kitOne K (.type "list") (.type "list") = some true
  q_tuple_tuple : PySem.W.kitOne K (.type "tuple") (.type "tuple") = some true
section

variable {P : Program} {w : World} {K : PySem.W.Frag} {mg : Str → Option Value} {base : Heap} {f : Addr} {fd : FuncData}
def spCell (K : PySem.W.Frag) : Sp := fun vs H Q _ => ∃ (a : Addr) (ns : List Int) (k : Int), vs = [.ref a, .int k] ∧ SqL K H a (ns.map V.int) ∧ 0 ≤ k ∧ ∀ v : Int, Q (.int v) H
def spDiv : Sp := fun vs H Q _ => ∃ x y : Int, vs = [.int x, .int y] ∧ 0 ≤ x ∧ 0 ≤ y ∧ Q (.int (M1.gd x y)) H
theorem pow40 : (2 : Int) ^ (40 : Int).toNat = 1099511627776 := by decide
def spWeighs (K : PySem.W.Frag) : Sp := fun vs H Q _ => ∃ (p : Addr) (c : Cl) (t : Int), vs = [.ref p, .int t] ∧ IsCl K H p c ∧ c.Ok ∧ ∀ r H', Same H H' → H' r = some (.tup [.int (wtop c t), .int (wbot c)]) → Q (.ref r) H'
def spLahead (K : PySem.W.Frag) : Sp := fun vs H Q _ => ∃ (p q : Addr) (c d : Cl) (t : Int), vs = [.ref p, .ref q, .int t] ∧ IsCl K H p c ∧ IsCl K H q d ∧ c.Ok ∧ d.Ok ∧ ∀ H', Same H H' → Q (.bl (ahd c d t)) H'
def spMix : Sp := fun vs H Q _ => ∃ x k : Int, vs = [.int x, .int k] ∧ ∀ r : Int, 0 ≤ r → Q (.int r) H
def spDraw : Sp := fun vs H Q _ => ∃ x k : Int, vs = [.int x, .int k] ∧ 0 ≤ k ∧ ∀ r : Int, 0 ≤ r → Q (.int r) H
def spWeightN : Sp := fun vs H Q _ => ∃ n : Int, vs = [.int n] ∧ 0 ≤ n ∧ ∀ p t b H', Same H H' → IsW H' p t b → Q (.ref p) H'
def spBeginS (K : PySem.W.Frag) : Sp := fun vs H Q _ => ∃ (a : Addr) (ns : List Int), vs = [.ref a] ∧ SqL K H a (ns.map V.int) ∧ ∀ b H', Same H H' → 0 ≤ b → b ≤ 500 → Q (.int b) H'
def spChore (K : PySem.W.Frag) : Sp := fun vs H Q _ => ∃ x n b m : Int, vs = [.int x, .int n, .int b, .int m] ∧ 0 ≤ n ∧ 0 ≤ b ∧ b ≤ 500 ∧ 0 ≤ m ∧ m ≤ 12 ∧ ∀ p y H', Same H H' → IsCh K H' p y → ChOk 1000 y → y.1.n = n → Q (.ref p) H'
def spChores (K : PySem.W.Frag) : Sp := fun vs H Q _ => ∃ (a : Addr) (ns : List Int) (k b : Int), vs = [.ref a, .int k, .int b] ∧ SqL K H a (ns.map V.int) ∧ 0 ≤ k ∧ 0 ≤ b ∧ b ≤ 500 ∧ ∀ l xs H', Same H H' → H l = none → IsChs K H' l xs → xs.length ≤ 40 → (∀ q, q ∈ xs → ChOk 1000 q.2) → (xs.map (·.2.1.n)).Nodup → Q (.ref l) H'
def lamPos : Pos := match (defBody s_claims_in_order).getLast? with
  | some (.Return (some (.Call _ _ [⟨_, .Lambda _ _ _ lp, _⟩] _)) _) => lp
  | _ => ⟨0, 0, 0, 0⟩
def lamQ : Str := (("claims_in_order" : Str) ++ ".<locals>.") ++ "<lambda>"
variable {tT tL : Addr}
def lam2Pos : Pos := match ((defBody s_law)[4]? : Option Stmt) with
  | some (Stmt.Assign _ (Expr.Call _ [_, _, _, Expr.Lambda _ _ _ lp] _ _) _) => lp
  | _ => ⟨0, 0, 0, 0⟩
def lam2Q : Str := (("law" : Str) ++ ".<locals>.") ++ "<lambda>"
def spLaw (K : PySem.W.Frag) (tT tL : Addr) : Sp := fun vs H Q _ => ∃ (a : Addr) (ns : List Int), vs = [.ref a] ∧ SqL K H a (ns.map V.int) ∧ ns.length ≤ 63 ∧ H tT = some (.tbl lamPos lamQ) ∧ H tL = some (.tbl lam2Pos lam2Q) ∧ ∀ H', Q (.bl true) H'
def spBottom (K : PySem.W.Frag) : Sp := fun vs H Q _ => ∃ (l : Addr) (ps : List (Addr × Cl)), vs = [.ref l] ∧ IsCs K H l ps ∧ Good (ps.map (·.2)) ∧ ∀ M H', Same H H' → 0 < M → M ≤ 27720 → (∀ c ∈ ps.map (·.2), c.wb ∣ M ∧ c.sb ∣ M) → Q (.int M) H'
def spKey (K : PySem.W.Frag) : Sp := fun vs H Q _ => ∃ (p : Addr) (c : Cl) (t M : Int), vs = [.ref p, .int t, .int M] ∧ IsCl K H p c ∧ c.Ok ∧ 0 < M ∧ M ≤ 27720 ∧ ∀ r H', Same H H' → H' r = some (.tup ((kM c t M).map V.int)) → Q (.ref r) H'
def spSortd (K : PySem.W.Frag) (tT : Addr) : Sp := fun vs H Q _ => ∃ (l : Addr) (ps : List (Addr × Cl)) (t : Int), vs = [.ref l, .int t] ∧ IsCs K H l ps ∧ Good (ps.map (·.2)) ∧ ps.length ≤ 40 ∧ H tT = some (.tbl lamPos lamQ) ∧
  ∀ D H' (qs : List (Addr × Cl)), Same H H' → H D = none → H' D = some (.lst (qs.map fun q => V.ref q.1)) → qs.Perm ps → Srt t (qs.map (·.2)) → Q (.ref D) H'
def spNumbers (K : PySem.W.Frag) (tT : Addr) : Sp := fun vs H Q _ => ∃ (l : Addr) (ps : List (Addr × Cl)) (t : Int), vs = [.ref l, .int t] ∧ IsCs K H l ps ∧ Good (ps.map (·.2)) ∧ ps.length ≤ 40 ∧ H tT = some (.tbl lamPos lamQ) ∧
  ∀ m H', Same H H' → H m = none → H' m = some (.lst (((ord (ps.map (·.2)) t).map (·.n)).map V.int)) → Q (.ref m) H'
structure ChIn (K : PySem.W.Frag) (H : Hp) (l : Addr) (xs : List (Addr × Cl × Int)) : Prop where
  chs : IsChs K H l xs
  len : xs.length ≤ 40
  ok : ∀ q, q ∈ xs → ChOk 1000 q.2
  nd : (xs.map (·.2.1.n)).Nodup
theorem ChIn.same {H H' : Hp} {l : Addr} {xs : List (Addr × Cl × Int)} (s : Same H H') (h : ChIn K H l xs) : ChIn K H' l xs := ⟨h.chs.same s, h.len, h.ok, h.nd⟩
theorem ChIn.good {H : Hp} {l : Addr} {xs : List (Addr × Cl × Int)} (h : ChIn K H l xs) (t : Int) : Good (csOf t xs) := csOf_good (fun q hq => (h.ok q hq).ok) h.nd
def spWorked (K : PySem.W.Frag) (tT : Addr) : Sp := fun vs H Q _ => ∃ (l : Addr) (xs : List (Addr × Cl × Int)) (h t : Int), vs = [.ref l, .int h, .int t] ∧ ChIn K H l xs ∧ 0 ≤ h ∧ H tT = some (.tbl lamPos lamQ) ∧ ∀ m H', Same H H' → H m = none → H' m = some (.lst ((workL t h.toNat xs).map V.int)) → Q (.ref m) H'
def spBehind (K : PySem.W.Frag) : Sp := fun vs H Q _ => ∃ (l m : Addr) (xs : List (Addr × Cl × Int)) (ws : List Int), vs = [.ref l, .ref m] ∧ ChIn K H l xs ∧ H m = some (.lst (ws.map V.int)) ∧ ∀ D H' bs, Same H H' → H D = none → IsBh H' D (behL H ws xs) bs → Q (.ref D) H'
def spDone (K : PySem.W.Frag) (tT : Addr) : Sp := fun vs H Q _ => ∃ (l : Addr) (xs : List (Addr × Cl × Int)) (h t : Int), vs = [.ref l, .int h, .int t] ∧ ChIn K H l xs ∧ 0 ≤ h ∧ H tT = some (.tbl lamPos lamQ) ∧
  ∀ p m D H' bs, Same H H' → H' p = some (.tup [.ref m, .ref D]) → H m = none → H D = none → m ≠ D → H' m = some (.lst ((workL t h.toNat xs).map V.int)) → IsBh H' D (behL H (workL t h.toNat xs) xs) bs → Q (.ref p) H'
theorem ChIn.next {H H' : Hp} {l D : Addr} {xs : List (Addr × Cl × Int)} {ws : List Int} {bs : List (Addr × List V)} (hI : ChIn K H l xs) (s : Same H H') (B : IsBh H' D (behL H ws xs) bs) :
    ChIn K H' D (zipB bs (behL H ws xs)) ∧ (zipB bs (behL H ws xs)).map (·.2) = bhC ws (xs.map (·.2)) := by
  obtain ⟨c1, c2⟩ := B.chs (K := K) fun k hk => by
    obtain ⟨q0, hq0, e, _⟩ := behL_mem hk
    rw [e]
    exact (hI.chs.ch q0 hq0).kc.2.same s
  have cn : (zipB bs (behL H ws xs)).map (·.2.1.n) = (behL H ws xs).map (·.2.1.n) := by
    have := congrArg (List.map fun x : Cl × Int => x.1.n) c2
    rw [List.map_map, List.map_map] at this
    exact this
  refine ⟨⟨c1, ?_, fun q' hq' => ?_, ?_⟩, by rw [c2, behL_C]⟩
  · have := congrArg List.length c2
    rw [List.length_map, List.length_map] at this
    rw [this]
    exact Nat.le_trans (behL_len _ _ _) hI.len
  · have : q'.2 ∈ (behL H ws xs).map (·.2) := by
      rw [← c2]
      exact List.mem_map.mpr ⟨q', hq', rfl⟩
    obtain ⟨k, hk, e⟩ := List.mem_map.mp this
    obtain ⟨q0, hq0, e2, pos⟩ := behL_mem hk
    have o := hI.ok q0 hq0
    rw [← e, e2]
    have le : lessN ws q0.2 ≤ q0.2.2 := by
      unfold lessN
      split <;> omega
    exact ⟨o.ok, Int.le_of_lt pos, Int.le_trans le o.l1, o.cm⟩
  · rw [cn]
    exact behL_nd hI.nd
structure RunOf (H0 H : Hp) (h : Nat) (b : Int) (c : Ch) (D : Addr) (rs : List (Addr × Addr × Int × List Int)) : Prop where
  run : IsRun H D rs
  new : ∀ r, r ∈ rs → H0 r.2.1 = none
  ne : ∀ r, r ∈ rs → r.2.1 ≠ D
  eq : ∃ n, rs.map (fun r => (r.2.2.1, r.2.2.2)) = (runN h n b (bhC [] c)).1 ∧ (runN h n b (bhC [] c)).2 = [] ∧ ∀ k, k < n → (runN h k b (bhC [] c)).2 ≠ []
theorem sum_le : ∀ {c : Ch}, (∀ k, k ∈ c → k.2 ≤ 12) → sumC c ≤ 12 * c.length
  | [], _ => Nat.le_refl _
  | k :: c, h => by
    have ih := sum_le (c := c) fun j hj => h j (List.mem_cons_of_mem _ hj)
    have := h k List.mem_cons_self
    unfold sumC at *
    simp
    omega
theorem ChIn.sum {H : Hp} {l : Addr} {xs : List (Addr × Cl × Int)} (hI : ChIn K H l xs) : sumC (xs.map (·.2)) ≤ 480 := by
  have a := sum_le (c := xs.map (·.2)) fun k hk => by
    obtain ⟨q, hq, rfl⟩ := List.mem_map.mp hk
    exact (hI.ok q hq).l1
  have := hI.len
  rw [List.length_map] at a
  omega
theorem ChIn.cm {H : Hp} {l : Addr} {xs : List (Addr × Cl × Int)} (hI : ChIn K H l xs) : ∀ k, k ∈ xs.map (·.2) → k.1.came ≤ 1000 := fun k hk => by
  obtain ⟨q, hq, rfl⟩ := List.mem_map.mp hk
  exact (hI.ok q hq).cm
theorem ChIn.gd {H : Hp} {l : Addr} {xs : List (Addr × Cl × Int)} (hI : ChIn K H l xs) : GdC (xs.map (·.2)) := by
  refine ⟨fun k hk => ?_, ?_⟩
  · obtain ⟨q, hq, rfl⟩ := List.mem_map.mp hk
    exact (hI.ok q hq).ok
  · rw [List.map_map]
    exact hI.nd
def spWk (L : List (Int × Int)) : Sp := fun vs H Q _ => ∃ n r : Int, vs = [.int n] ∧ valI L n = some r ∧ Q (.int r) H
def tkN (L : List (Int × Int)) (k : Cl × Int) : Int := if k.2 < (valI L k.1.n).getD 0 then k.2 else (valI L k.1.n).getD 0
def takC (L : List (Int × Int)) (c : Ch) : Ch := c.map fun k => (k.1, tkN L k)
def spWholeI : Sp := fun vs H Q _ => ∃ i lo hi : Int, vs = [.int i, .int lo, .int hi] ∧ Q (.bl (decide (lo ≤ i) && decide (i ≤ hi))) H
def Knows (L : List (Int × Int)) (n : Int) : Prop := ∃ r : Int, valI L n = some r ∧ 0 ≤ r
def spWTaken (P : Program) (w : World) (K : PySem.W.Frag) (mg : Str → Option Value) (base : Heap) : Sp := fun vs H Q _ => ∃ (p f : Addr) (y : Cl × Int) (L : List (Int × Int)), vs = [.ref p, .ref f] ∧ IsCh K H p y ∧ 0 ≤ y.2 ∧ FnV P w K mg base 3 H f (spWk L) ∧ Knows L y.1.n ∧ Q (.int (tkN L y)) H
def spTaken (P : Program) (w : World) (K : PySem.W.Frag) (mg : Str → Option Value) (base : Heap) : Sp := fun vs H Q _ => ∃ (l f : Addr) (xs : List (Addr × Cl × Int)) (L : List (Int × Int)), vs = [.ref l, .ref f] ∧ ChIn K H l xs ∧ FnV P w K mg base 3 H f (spWk L) ∧ (∀ k, k ∈ xs → Knows L k.2.1.n) ∧ ∀ l' H' ys, Same H H' → ChIn K H' l' ys → ys.map (·.2) = takC L (xs.map (·.2)) → Q (.ref l') H'
def spRun (P : Program) (w : World) (K : PySem.W.Frag) (mg : Str → Option Value) (base : Heap) (tT : Addr) : Sp := fun vs H Q _ => ∃ (l f : Addr) (xs : List (Addr × Cl × Int)) (L : List (Int × Int)) (h b : Int), vs = [.ref l, .int h, .int b, .ref f] ∧ ChIn K H l xs ∧ 0 < h ∧ 0 ≤ b ∧ b ≤ 1000 ∧ H tT = some (.tbl lamPos lamQ) ∧ FnV P w K mg base 3 H f (spWk L) ∧ (∀ k, k ∈ xs → Knows L k.2.1.n) ∧
  ∀ D H' rs, Same H H' → H D = none → RunOf H H' h.toNat b (takC L (xs.map (·.2))) D rs → (∀ r, r ∈ rs → r.2.2.2.length ≤ 40) → rs.length ≤ 1481 → Q (.ref D) H'
theorem wk_len {H : Hp} {l : Addr} {xs : List (Addr × Cl × Int)} (hI : ChIn K H l xs) (t : Int) (h : Nat) : (workL t h xs).length ≤ 40 := by
  unfold workL
  rw [List.length_take, List.length_map, (ord_perm _ _).length_eq]
  have : (csOf t xs).length ≤ xs.length := by
    unfold csOf
    rw [List.length_map]
    exact List.length_filter_le _ _
  have := hI.len
  omega
theorem sc_common_divisor : FnScope ["one", "other", "rest"] ["one", "other"] (defScope s_common_divisor) := ⟨rfl, rfl, rfl, by decide +kernel, rfl, by decide +kernel, by decide +kernel⟩
theorem ok_common_divisor (D : Dfn K mg "common_divisor" s_common_divisor ["one", "other"] f fd) (T : Txt K mg) : Cal P w K mg base "common_divisor" 1 ["one", "other"] spDiv := by
  refine D.cal (D.F.ok sc_common_divisor (fun vs H Q E h => ?_) (fun cdv A outer s H vs Q E hr h => ?_))
  · obtain ⟨x, y, rfl, _⟩ := h
    rfl
  obtain ⟨x, y, rfl, hx, hy, q⟩ := h
  refine ⟨_, (pss_cons (ps_while PassesOwn.never (pt_cmpR op_gt (pv 1) pe_int (nomark _)) (pss_cons (ps_set (i := 2) sc_common_divisor.nd rfl (Or.inl rfl) (pe_op op_mod (pv 0) (pv 1)))
      (pss_cons (ps_set (i := 0) sc_common_divisor.nd rfl (Or.inl rfl) (pv 1))
      (pss_one (ps_set (i := 1) sc_common_divisor.nd rfl (Or.inl rfl) (pv 2))))))
      (pss_one (ps_ret (pv 0)))), ?_⟩
  refine while_by (fun σ H' => ∃ (a b : Int) (r : Option V), σ = [some (.int a), some (.int b), r] ∧ 0 ≤ a ∧ 0 ≤ b ∧ M1.gd a b = M1.gd x y ∧ H' = H)
    (fun σ _ => match σ with | [_, some (.int b), _] => b.toNat | _ => 0) ⟨x, y, none, rfl, hx, hy, rfl, rfl⟩ ?_ ?_
  · rintro σ H' ⟨a, b, r, rfl, ha, hb, hg, rfl⟩
    refine ⟨_, rfl, _, _, rfl, rfl, _, rfl, ?_⟩
    refine ite2 (fun c => ?_) (fun c => ?_)
    · have c' : 0 < b := of_decide_eq_true c
      have m1 := Int.emod_nonneg a (show b ≠ 0 by omega)
      have m2 := Int.emod_lt_of_pos a c'
      refine ⟨_, rfl, _, rfl, _, _, rfl, rfl, c', _, rfl, _, rfl, ?_⟩
      refine ⟨⟨b, a % b, _, rfl, hb, m1, M1.gd_step.trans hg, rfl⟩, ?_⟩
      show (a % b).toNat < b.toNat
      omega
    · have c' : ¬ 0 < b := of_decide_eq_false (Bool.eq_false_iff.mpr c)
      have e : b = 0 := by omega
      subst e
      rw [M1.gd_zero ha] at hg
      refine ⟨_, rfl, ?_⟩
      rw [hg]
      exact q
  · rintro σ H' Q1 Q2 hq ⟨v, e, i, j, e1, e2, k, ek, q1⟩
    exact ⟨v, e, i, j, e1, e2, k, ek, hq _ _ q1⟩
theorem sc_common_bottom : FnScope ["claims", "common", "claim", "bottom"] ["claims"] (defScope s_common_bottom) := ⟨rfl, rfl, rfl, by decide +kernel, rfl, by decide +kernel, by decide +kernel⟩
theorem ok_common_bottom (D : Dfn K mg "common_bottom" s_common_bottom ["claims"] f fd) (T : Txt K mg) (C_common_divisor : Cal P w K mg base "common_divisor" 1 ["one", "other"] spDiv) : Cal P w K mg base "common_bottom" 2 ["claims"] (spBottom K) := by
  refine D.cal (D.F.ok sc_common_bottom (fun vs H Q E h => ?_) (fun cdv A outer s H vs Q E hr h => ?_))
  · obtain ⟨l, ps, rfl, _⟩ := h
    rfl
  obtain ⟨l, ps, rfl, hC, G, q⟩ := h
  refine ⟨_, (pss_cons (ps_set (i := 1) sc_common_bottom.nd rfl (Or.inl rfl) pe_int)
      (pss_cons (ps_for PassesOwn.never rfl (pi_list (pv 0)) (pg_name (i := 2) sc_common_bottom.nd rfl (Or.inl rfl)) (pss_one (ps_for PassesOwn.never rfl (pi_tup (pe_tupS (pa_cons (pe_ix ix_tup (pe_ix ix_tup (pv 2) pe_int (fun _ _ => rfl)) pe_int (fun _ _ => rfl)) (pa_cons (pe_ix ix_tup (pe_ix ix_tup (pv 2) pe_int (fun _ _ => rfl)) pe_int (fun _ _ => rfl)) pa_nil)))) (pg_name (i := 3) sc_common_bottom.nd rfl (Or.inl rfl)) (pss_one (ps_set (i := 1) sc_common_bottom.nd rfl (Or.inl rfl) (pe_op op_fdivB (pe_op op_mul (pv 1) (pv 3)) (pe_cal C_common_divisor (hr.mono (by decide)) rfl (pa_cons (pv 1) (pa_cons (pv 3) pa_nil)))))))))
      (pss_one (ps_ret (pv 1))))), ?_⟩
  refine ⟨_, rfl, l, rfl, ⟨_, SqL.of hC.at_⟩, ?_⟩
  refine for_list (K := K) (a := l) (xs := ps.map fun q => V.ref q.1) (fun i σ H1 => ∃ (M : Int) (v2 v3 : Option V), σ = [some (.ref l), some (.int M), v2, v3] ∧ Same H H1 ∧ 0 < M ∧ M ∣ 27720 ∧ ∀ j y, j < i → ps[j]? = some y → y.2.wb ∣ M ∧ y.2.sb ∣ M)
    ⟨1, _, _, rfl, Same.refl _, by decide, by decide, fun j y z => by omega⟩ (fun i σ H1 _ ⟨_, _, _, _, s1, _⟩ => SqL.of (s1 _ _ hC.at_)) ?_ ?_
  · rintro i x σ H1 hi ⟨M, v2, v3, rfl, s1, M0, Md, hM⟩
    rw [List.getElem?_map] at hi
    cases e : ps[i]? with
    | none => rw [e] at hi; cases hi
    | some y =>
      rw [e] at hi
      cases hi
      have hy := List.mem_of_getElem? e
      have ok := G.ok y.2 (List.mem_map.mpr ⟨y, hy, rfl⟩)
      obtain ⟨pw, ps', z1, z2, z3⟩ := ((hC.cl y hy).same s1).ex
      refine ⟨_, rfl, y.1, _, _, _, rfl, rfl, SqT.of z1, rfl, pw, _, _, _, rfl, rfl, SqT.of z2, rfl, _, rfl, y.1, _, _, _, rfl, rfl, SqT.of z1, rfl, ps', _, _, _, rfl, rfl, SqT.of z3, rfl, sz 2 (by decide), fun lt H2 s2 n2 h2 => ?_⟩
      refine ⟨lt, rfl, ⟨_, SqT.of h2⟩, ?_⟩
      have w2 := ok.w2
      have w3 := ok.w3
      have b2 := ok.s2
      have b3 := ok.s3
      refine for_tup (K := K) (a := lt) (xs := [V.int y.2.wb, V.int y.2.sb]) (fun k σ H3 => ∃ (N : Int) (v3 : Option V), σ = [some (.ref l), some (.int N), some (.ref y.1), v3] ∧ Same H2 H3 ∧ 0 < N ∧ N ∣ 27720 ∧ M ∣ N ∧ (0 < k → y.2.wb ∣ N) ∧ (1 < k → y.2.sb ∣ N))
        ⟨M, _, rfl, Same.refl _, M0, Md, Int.dvd_refl _, fun z => by omega, fun z => by omega⟩ (fun k σ H3 _ ⟨_, _, _, s3, _⟩ => SqT.of (s3 _ _ h2)) ?_ ?_
      · rintro k x σ H3 hk ⟨N, v3, rfl, s3, N0, N1, N2, N3, N4⟩
        have hx : ∃ b : Int, x = .int b ∧ 0 < b ∧ b ≤ 12 ∧ ((k = 0 ∧ b = y.2.wb) ∨ (k = 1 ∧ b = y.2.sb)) := by
          rcases (by have := (List.getElem?_eq_some_iff.mp hk).1; simp at this; omega : k = 0 ∨ k = 1) with rfl | rfl
          · simp at hk
            exact ⟨_, hk.symm, w2, w3, .inl ⟨rfl, rfl⟩⟩
          · simp at hk
            exact ⟨_, hk.symm, b2, b3, .inr ⟨rfl, rfl⟩⟩
        obtain ⟨b, rfl, b0, b1, hb⟩ := hx
        have Nle : N ≤ 27720 := Int.le_of_dvd (by decide) N1
        obtain ⟨L0, L1, L2, L3⟩ := lcm_step N0 b0
        have g0 := M1.gd_pos (x := N) b0
        have g1 := M1.gd_le (x := N) b0
        refine ⟨_, rfl, _, rfl, _, _, rfl, rfl, .inr ⟨by omega, by omega⟩, _, rfl, _, rfl, N, b, rfl, by omega, by omega, _, _, rfl, rfl, ⟨g0, by omega⟩, ?_⟩
        refine ⟨_, _, rfl, s3, L0, L3 _ N1 (dvd_27720 b0 b1), Int.dvd_trans N2 L1, fun _ => ?_, fun z => ?_⟩
        · rcases hb with ⟨rfl, rfl⟩ | ⟨rfl, rfl⟩
          · exact L2
          · exact Int.dvd_trans (N3 (by omega)) L1
        · rcases hb with ⟨rfl, rfl⟩ | ⟨rfl, rfl⟩
          · omega
          · exact L2
      · rintro σ H3 ⟨N, v3, rfl, s3, N0, N1, N2, N3, N4⟩
        refine ⟨N, _, _, rfl, s1.trans (s2.trans s3), N0, N1, fun j z hj hz => ?_⟩
        by_cases ji : j = i
        · subst ji
          rw [e] at hz
          cases hz
          exact ⟨N3 (by simp), N4 (by simp)⟩
        · obtain ⟨d1, d2⟩ := hM j z (by omega) hz
          exact ⟨Int.dvd_trans d1 N2, Int.dvd_trans d2 N2⟩
  · rintro σ H1 ⟨M, v2, v3, rfl, s1, M0, Md, hM⟩
    refine ⟨_, rfl, q M H1 s1 M0 (Int.le_of_dvd (by decide) Md) fun c hc => ?_⟩
    obtain ⟨y, hy, rfl⟩ := List.mem_map.mp hc
    obtain ⟨j, hj, ej⟩ := List.getElem_of_mem hy
    exact hM j y (by rw [List.length_map]; exact hj) (by rw [List.getElem?_eq_getElem hj, ej])
theorem sc_place_key : FnScope ["claim", "turn", "common", "weight", "speed"] ["claim", "turn", "common"] (defScope s_place_key) := ⟨rfl, rfl, rfl, by decide +kernel, rfl, by decide +kernel, by decide +kernel⟩
theorem ok_place_key (D : Dfn K mg "place_key" s_place_key ["claim", "turn", "common"] f fd) (T : Txt K mg) : Cal P w K mg base "place_key" 1 ["claim", "turn", "common"] (spKey K) := by
  refine D.cal (D.F.ok sc_place_key (fun vs H Q E h => ?_) (fun cdv A outer s H vs Q E hr h => ?_))
  · obtain ⟨p, c, t, M, rfl, _⟩ := h
    rfl
  obtain ⟨p, c, t, M, rfl, hc, ok, M0, M1, q⟩ := h
  refine ⟨_, (pss_cons (ps_set (i := 3) sc_place_key.nd rfl (Or.inl rfl) (pe_op op_mul (pe_ix ix_tup (pe_ix ix_tup (pv 0) pe_int (fun _ _ => rfl)) pe_int (fun _ _ => rfl)) (pe_op op_fdivB (pv 2) (pe_ix ix_tup (pe_ix ix_tup (pv 0) pe_int (fun _ _ => rfl)) pe_int (fun _ _ => rfl)))))
      (pss_cons (ps_set (i := 4) sc_place_key.nd rfl (Or.inl rfl) (pe_op op_mul (pe_ix ix_tup (pe_ix ix_tup (pv 0) pe_int (fun _ _ => rfl)) pe_int (fun _ _ => rfl)) (pe_op op_fdivB (pv 2) (pe_ix ix_tup (pe_ix ix_tup (pv 0) pe_int (fun _ _ => rfl)) pe_int (fun _ _ => rfl)))))
      (pss_one (ps_ret (pe_tupS (pa_cons (pe_un un_neg (pe_op op_add (pv 3) (pe_op op_mul (pe_op op_sub (pv 1) (pe_ix ix_tup (pv 0) pe_int (fun _ _ => rfl))) (pv 4)))) (pa_cons (pe_ix ix_tup (pv 0) pe_int (fun _ _ => rfl)) (pa_cons (pe_ix ix_tup (pv 0) pe_int (fun _ _ => rfl)) pa_nil)))))))), ?_⟩
  obtain ⟨pw, ps, e1, e2, e3⟩ := id hc.ex
  have hp : SqT K H p _ := SqT.of e1
  have hw : SqT K H pw _ := SqT.of e2
  have hs : SqT K H ps _ := SqT.of e3
  have w2 := ok.w2
  have w3 := ok.w3
  have b2 := ok.s2
  have b3 := ok.s3
  have d1 : M / c.wb ≤ M := Int.ediv_le_self _ (by omega)
  have d2 : 0 ≤ M / c.wb := Int.ediv_nonneg (by omega) (by omega)
  have d3 : M / c.sb ≤ M := Int.ediv_le_self _ (by omega)
  have d4 : 0 ≤ M / c.sb := Int.ediv_nonneg (by omega) (by omega)
  have d5 : c.st * (M / c.sb) ≤ 1000000 * 27720 := Int.mul_le_mul ok.s1 (by omega) d4 (by decide)
  have d6 : 0 ≤ c.st * (M / c.sb) := Int.mul_nonneg ok.s0 d4
  refine ⟨_, rfl, p, _, _, _, rfl, rfl, hp, rfl, pw, _, _, _, rfl, rfl, hw, rfl, _, rfl, _, rfl, p, _, _, _, rfl, rfl, hp, rfl, pw, _, _, _, rfl, rfl, hw, rfl, _, _, rfl, rfl, ⟨w2, by omega⟩, _, _, rfl, rfl, .inr ⟨by omega, by omega⟩, ?_⟩
  refine ⟨_, rfl, p, _, _, _, rfl, rfl, hp, rfl, ps, _, _, _, rfl, rfl, hs, rfl, _, rfl, _, rfl, p, _, _, _, rfl, rfl, hp, rfl, ps, _, _, _, rfl, rfl, hs, rfl, _, _, rfl, rfl, ⟨b2, by omega⟩, _, _, rfl, rfl, .inr ⟨by omega, by omega⟩, ?_⟩
  refine ⟨_, rfl, _, rfl, _, rfl, p, _, _, _, rfl, rfl, hp, rfl, _, _, rfl, rfl, _, rfl, _, _, rfl, rfl, .inr ⟨by omega, by omega⟩, _, _, rfl, rfl, _, rfl, ?_⟩
  refine ⟨_, rfl, p, _, _, _, rfl, rfl, hp, rfl, _, rfl, p, _, _, _, rfl, rfl, hp, rfl, sz 3 (by decide), fun r H1 s1 n1 h1 => ?_⟩
  exact q r H1 s1 h1
theorem sc_claims_in_order : FnScope ["claims", "turn", "common"] ["claims", "turn"] (defScope s_claims_in_order) := ⟨rfl, rfl, rfl, by decide +kernel, rfl, by decide +kernel, by decide +kernel⟩
theorem ok_claims_in_order {cv : Value} (D : DfnC K mg "claims_in_order" s_claims_in_order ["claims", "turn"] f fd cv) (SI : Site K mg base cv tT) (T : Txt K mg) (C_common_bottom : Cal P w K mg base "common_bottom" 2 ["claims"] (spBottom K)) (C_place_key : Cal P w K mg base "place_key" 1 ["claim", "turn", "common"] (spKey K)) : Cal P w K mg base "claims_in_order" 6 ["claims", "turn"] (spSortd K tT) := by
  refine D.cal (D.F.ok sc_claims_in_order (fun vs H Q E h => ?_) (fun A outer s H vs Q E hr h => ?_))
  · obtain ⟨l, ps, t, rfl, _⟩ := h
    rfl
  obtain ⟨l, ps, t, rfl, hC, G, pl, hT, q⟩ := h
  refine ⟨_, (pss_cons (ps_set (i := 2) sc_claims_in_order.nd rfl (Or.inr rfl) (pe_cal C_common_bottom (hr.mono (by decide)) rfl (pa_cons (pv 0) pa_nil)))
      (pss_one (ps_ret (pe_sortKey (N := ["claim", "turn", "common"]) (js := [1, 2]) (CompScope.of rfl rfl rfl rfl rfl (by decide +kernel) rfl rfl rfl rfl) SI rfl hr.depth rfl rfl T.b_sorted (pa_cons (pv 0) pa_nil) (fun _ _ _ _ _ => (pe_cal C_place_key (((hr.mono (j := 1 + 3) (by decide)).in1).in1.deeper _) rfl (pa_cons (pv 0) (pa_cons (pv 1) (pa_cons (pv 2) pa_nil))))))))), ?_⟩
  refine ⟨_, rfl, l, ps, rfl, hC, G, fun M H1 s1 M0 M1 hM => ?_⟩
  have ml : (ps.map fun q => V.ref q.1).length = (ps.map (·.2)).length := by rw [List.length_map, List.length_map]
  refine ⟨_, rfl, l, _, kf_at (ps.map (·.2)) t M, 3, rfl, SqL.of (hC.same s1).at_, by rw [ml, List.length_map]; omega, kf_len _ t M, by decide, by rw [ml]; exact kf_tot G M0 hM, s1 _ _ hT, fun H2 s2 => ⟨fun i v hv H3 s3 => ?_, fun D H' p s' n' h' hp hs => ?_⟩⟩
  · rw [List.getElem?_map] at hv
    cases e : ps[i]? with
    | none => rw [e] at hv; cases hv
    | some y =>
      rw [e] at hv
      cases hv
      have hy := List.mem_of_getElem? e
      refine ⟨_, rfl, _, rfl, _, rfl, y.1, y.2, t, M, rfl, (hC.cl y hy).same (s1.trans (s2.trans s3)), G.ok y.2 (List.mem_map.mpr ⟨y, hy, rfl⟩), M0, M1, fun r H4 s4 h4 => ⟨s4, r, rfl, ?_⟩⟩
      rw [h4]
      unfold kf_at
      rw [List.getElem?_map, e]
      rfl
  · rw [ml] at hp
    have s02 := s1.trans s2
    have d : Addr × Cl := (0, ⟨0, 0, 1, 0, 1, 0⟩)
    have lt : ∀ i ∈ p, i < ps.length := fun i hi => by
      have := List.mem_range.mp (hp.mem_iff.mp hi)
      simpa using this
    have hp2 : p.Perm (List.range ps.length) := by simpa using hp
    refine q D H' (p.map fun i => ps.getD i d) (s02.trans s') (Same.free s02 n') ?_ (pick_perm d ps hp2) (pick_srt G M0 hM hp d hs)
    rw [h', List.map_map]
    congr 2
    refine List.map_congr_left fun i hi => ?_
    have := lt i hi
    show (ps.map fun q => V.ref q.1).getD i .non = V.ref (ps.getD i d).1
    rw [List.getD_eq_getElem?_getD, List.getD_eq_getElem?_getD, List.getElem?_map, List.getElem?_eq_getElem this]
    rfl
theorem sc_numbers_in_order : FnScope ["claims", "turn"] ["claims", "turn"] (defScope s_numbers_in_order) := ⟨rfl, rfl, rfl, by decide +kernel, rfl, by decide +kernel, by decide +kernel⟩
theorem ok_numbers_in_order (D : Dfn K mg "numbers_in_order" s_numbers_in_order ["claims", "turn"] f fd) (T : Txt K mg) (C_claims_in_order : Cal P w K mg base "claims_in_order" 6 ["claims", "turn"] (spSortd K tT)) : Cal P w K mg base "numbers_in_order" 7 ["claims", "turn"] (spNumbers K tT) := by
  refine D.cal (D.F.ok sc_numbers_in_order (fun vs H Q E h => ?_) (fun cdv A outer s H vs Q E hr h => ?_))
  · obtain ⟨l, ps, t, rfl, _⟩ := h
    rfl
  obtain ⟨l, ps, t, rfl, hC, G, pl, hT, q⟩ := h
  refine ⟨_, (pss_one (ps_ret (pe_comp (N := ["claim"]) (js := []) rfl (CompScope.of rfl rfl rfl rfl rfl (by decide +kernel) rfl rfl rfl rfl) (pi_list (pe_cal C_claims_in_order (hr.mono (by decide)) rfl (pa_cons (pv 0) (pa_cons (pv 1) pa_nil)))) (fun _ _ _ _ _ => ct_nil) (fun _ _ _ _ _ => (pe_ix (r := rIxT K) ix_tup (pv 0) pe_int (fun _ _ => rfl)))))), ?_⟩
  refine ⟨_, rfl, _, rfl, l, ps, t, rfl, hC, G, pl, hT, fun m H1 qs s1 n1 h1 hp hs => ⟨m, rfl, ⟨_, SqL.of h1⟩, ?_⟩⟩
  have mo : (qs.map fun q => V.ref q.1).length = qs.length := List.length_map _
  have lq := hp.length_eq
  refine comp_list (xs := qs.map fun q => V.ref q.1) (fun _ => true) (itm qs fun q => V.int q.2.n) (SqL.of h1) (fun i x Hh Q' hx sh q' => q' Hh (Same.refl _)) ?_ (small1000 (by rw [mo]; omega)) (fun D H2 s2 nD hD => ?_)
  · intro i x Hh Q' hx _ sh q'
    rw [List.getElem?_map] at hx
    cases e : qs[i]? with
    | none => rw [e] at hx; cases hx
    | some y =>
      rw [e] at hx
      cases hx
      obtain ⟨pw, pz, z1, _, _⟩ := (((hC.cl y (hp.mem_iff.mp (List.mem_of_getElem? e))).same s1).same sh).ex
      refine ⟨_, rfl, y.1, _, _, _, rfl, rfl, SqT.of z1, rfl, ?_⟩
      have z := q' Hh (Same.refl _)
      unfold itm at z
      rw [e] at z
      exact z
  rw [filter_all, mo, itm_map] at hD
  refine q D H2 (s1.trans s2) (Same.free s1 nD) ?_
  rw [hD, ← ord_uniq G (hp.map _) hs, List.map_map, List.map_map]
  rfl
theorem sc_numbers_worked : FnScope ["chores", "hands", "turn", "there"] ["chores", "hands", "turn"] (defScope s_numbers_worked) := ⟨rfl, rfl, rfl, by decide +kernel, rfl, by decide +kernel, by decide +kernel⟩
theorem ok_numbers_worked (D : Dfn K mg "numbers_worked" s_numbers_worked ["chores", "hands", "turn"] f fd) (T : Txt K mg) (C_numbers_in_order : Cal P w K mg base "numbers_in_order" 7 ["claims", "turn"] (spNumbers K tT)) : Cal P w K mg base "numbers_worked" 8 ["chores", "hands", "turn"] (spWorked K tT) := by
  refine D.cal (D.F.ok sc_numbers_worked (fun vs H Q E h => ?_) (fun cdv A outer s H vs Q E hr h => ?_))
  · obtain ⟨l, xs, h, t, rfl, _⟩ := h
    rfl
  obtain ⟨l, xs, h, t, rfl, hx, h0, hT, q⟩ := h
  refine ⟨_, (pss_cons (ps_setC (i := 3) (N := ["chore", "turn"]) (js := [2]) sc_numbers_worked.nd rfl rfl rfl (CompScope.of rfl rfl rfl rfl rfl (by decide +kernel) rfl rfl rfl rfl) (pi_list (pv 0)) (fun _ _ _ _ _ => (ct_one (PW.pt (pw_and (pt_cmpR op_gt (pe_ix (r := rIxT K) ix_tup (pv 0) pe_int (fun _ _ => rfl)) pe_int (nomark _)) (pw_and1 (pt_cmpR op_le (pe_ix (r := rIxT K) ix_tup (pe_ix (r := rIxT K) ix_tup (pv 0) pe_int (fun _ _ => rfl)) pe_int (fun _ _ => rfl)) (pv 1) (nomark _))))))) (fun _ _ _ _ _ => (pe_ix (r := rIxT K) ix_tup (pv 0) pe_int (fun _ _ => rfl))))
      (pss_one (ps_ret (pe_slice sl_listS (pe_cal C_numbers_in_order (hr.mono (by decide)) rfl (pa_cons (pv 3) (pa_cons (pv 2) pa_nil))) po_none (po_some (pv 1)))))), ?_⟩
  refine ⟨_, rfl, l, rfl, ⟨_, SqL.of hx.chs.at_⟩, ?_⟩
  have ml : (xs.map fun q => V.ref q.1).length = xs.length := List.length_map _
  refine comp_list (xs := xs.map fun q => V.ref q.1) (tak xs (isThere t)) (itm xs fun k => V.ref (kcOf H k.1)) (SqL.of hx.chs.at_) ?_ ?_ (small1000 (by rw [ml]; exact Nat.le_trans hx.len (by decide))) (fun D H2 s2 nD hD => ?_)
  · intro i x Hh Q' hi sh q'
    rw [List.getElem?_map] at hi
    cases e : xs[i]? with
    | none => rw [e] at hi; cases hi
    | some k =>
      rw [e] at hi
      cases hi
      have z := q' Hh (Same.refl _)
      unfold tak isThere at z
      rw [e] at z
      have z : Q' (decide (0 < k.2.2) && decide (k.2.1.came ≤ t)) Hh := z
      obtain ⟨k1, k2⟩ := (hx.chs.ch k (List.mem_of_getElem? e)).kc
      obtain ⟨_, _, c1, _, _⟩ := id k2.ex
      refine ⟨_, rfl, k.1, _, _, _, rfl, rfl, SqT.of (sh _ _ k1), rfl, _, _, rfl, rfl, _, rfl, ?_⟩
      by_cases c1' : 0 < k.2.2
      · refine iteD c1' ?_
        rw [decide_eq_true c1', Bool.true_and] at z
        exact ⟨_, rfl, k.1, _, _, _, rfl, rfl, SqT.of (sh _ _ k1), rfl, _, _, _, _, rfl, rfl, SqT.of (sh _ _ c1), rfl, _, rfl, _, _, rfl, rfl, _, rfl, z⟩
      · refine iteDn c1' ?_
        rw [decide_eq_false c1', Bool.false_and] at z
        exact z
  · intro i x Hh Q' hi _ sh q'
    rw [List.getElem?_map] at hi
    cases e : xs[i]? with
    | none => rw [e] at hi; cases hi
    | some k =>
      rw [e] at hi
      cases hi
      have z := q' Hh (Same.refl _)
      unfold itm at z
      rw [e] at z
      obtain ⟨k1, k2⟩ := (hx.chs.ch k (List.mem_of_getElem? e)).kc
      exact ⟨_, rfl, k.1, _, _, _, rfl, rfl, SqT.of (sh _ _ k1), rfl, z⟩
  rw [ml, tak_fil, ← thereL_refs] at hD
  have hC : IsCs K H2 D (thereL H t xs) := ⟨hD, fun c hc => (thereL_cl hx.chs t hc).same s2⟩
  have G : Good ((thereL H t xs).map (·.2)) := by rw [thereL_cs]; exact hx.good t
  refine ⟨_, rfl, _, rfl, D, thereL H t xs, t, rfl, hC, G, Nat.le_trans (thereL_len _ _ _) hx.len, s2 _ _ hT, fun m H3 s3 n3 h3 => ?_⟩
  rw [thereL_cs] at h3
  refine ⟨_, rfl, _, rfl, m, _, rfl, SqL.of h3, fun p H4 s4 n4 h4 => ?_⟩
  refine q p H4 (s2.trans (s3.trans s4)) (Same.free (s2.trans s3) n4) ?_
  rw [h4]
  unfold workL cutV
  rw [HT.sIx_none, show h = ((h.toNat : Nat) : Int) by omega, HT.sIx_nat, List.length_map, List.drop_zero, Nat.sub_zero, List.map_take, Int.toNat_natCast]
  congr 2
  rw [Nat.min_def]
  split
  · rfl
  · rw [List.take_of_length_le (by rw [List.length_map]; omega), List.take_of_length_le (by rw [List.length_map]; omega)]
theorem sc_chores_behind : FnScope ["chores", "numbers", "lessened"] ["chores", "numbers"] (defScope s_chores_behind) := ⟨rfl, rfl, rfl, by decide +kernel, rfl, by decide +kernel, by decide +kernel⟩
theorem ok_chores_behind (D : Dfn K mg "chores_behind" s_chores_behind ["chores", "numbers"] f fd) (T : Txt K mg) : Cal P w K mg base "chores_behind" 1 ["chores", "numbers"] (spBehind K) := by
  refine D.cal (D.F.ok sc_chores_behind (fun vs H Q E h => ?_) (fun cdv A outer s H vs Q E hr h => ?_))
  · obtain ⟨l, m, xs, ws, rfl, _⟩ := h
    rfl
  obtain ⟨l, m, xs, ws, rfl, hx, hm, q⟩ := h
  refine ⟨_, (pss_cons (ps_setC (i := 2) (N := ["chore", "numbers"]) (js := [1]) sc_chores_behind.nd rfl rfl rfl (CompScope.of rfl rfl rfl rfl rfl (by decide +kernel) rfl rfl rfl rfl) (pi_list (pv 0)) (fun _ _ _ _ _ => ct_nil) (fun _ _ _ _ _ => (pe_tupS (pa_cons (pe_ix (r := rIxT K) ix_tup (pv 0) pe_int (fun _ _ => rfl)) (pa_cons (pe_ifExp (pt_cmpR (op_inK (K := K) rfl) (pe_ix (r := rIxT K) ix_tup (pe_ix (r := rIxT K) ix_tup (pv 0) pe_int (fun _ _ => rfl)) pe_int (fun _ _ => rfl)) (pv 1) rfl) (pe_op op_sub (pe_ix (r := rIxT K) ix_tup (pv 0) pe_int (fun _ _ => rfl)) pe_int) (pe_ix (r := rIxT K) ix_tup (pv 0) pe_int (fun _ _ => rfl))) pa_nil)))))
      (pss_one (ps_ret (pe_comp (N := ["chore"]) (js := []) rfl (CompScope.of rfl rfl rfl rfl rfl (by decide +kernel) rfl rfl rfl rfl) (pi_list (pv 2)) (fun _ _ _ _ _ => (ct_one (pt_cmpR op_gt (pe_ix (r := rIxT K) ix_tup (pv 0) pe_int (fun _ _ => rfl)) pe_int (nomark _)))) (fun _ _ _ _ _ => (pv 0)))))), ?_⟩
  refine ⟨_, rfl, l, rfl, ⟨_, SqL.of hx.chs.at_⟩, ?_⟩
  have ml : (xs.map fun q => V.ref q.1).length = xs.length := List.length_map _
  have fl : ∀ ns : List Int, (ns.map V.int).all flatV = true := fun ns => List.all_eq_true.mpr fun y hy => by obtain ⟨i, _, rfl⟩ := List.mem_map.mp hy; rfl
  refine comp_tups (xs := xs.map fun q => V.ref q.1) (tak xs fun _ => true) (itl xs fun k => [V.ref (kcOf H k.1), V.int (lessN ws k.2)]) (SqL.of hx.chs.at_) ?_ ?_ (small1000 (by rw [ml]; exact Nat.le_trans hx.len (by decide))) (fun D H2 bs s2 nD hD eb hb => ?_)
  · intro i x Hh Q' hi sh q'
    have z := q' Hh (Same.refl _)
    unfold tak at z
    rw [List.getElem?_map] at hi
    cases e : xs[i]? with
    | none => rw [e] at hi; cases hi
    | some k =>
      rw [e] at z
      exact z
  · intro i x Hh Q' hi _ sh q'
    rw [List.getElem?_map] at hi
    cases e : xs[i]? with
    | none => rw [e] at hi; cases hi
    | some k =>
      rw [e] at hi
      cases hi
      obtain ⟨k1, k2⟩ := (hx.chs.ch k (List.mem_of_getElem? e)).kc
      obtain ⟨_, _, c1, _, _⟩ := id k2.ex
      have z : ∀ b Hh', Same Hh Hh' → Hh' b = some (.tup [V.ref (kcOf H k.1), V.int (lessN ws k.2)]) → Q' (.ref b) Hh' := fun b H' s' h' => q' b H' s' (by rw [h']; unfold itl; rw [e])
      refine ⟨_, rfl, k.1, _, _, _, rfl, rfl, SqT.of (sh _ _ k1), rfl, ?_⟩
      refine ⟨_, rfl, k.1, _, _, _, rfl, rfl, SqT.of (sh _ _ k1), rfl, _, _, _, _, rfl, rfl, SqT.of (sh _ _ c1), rfl, _, rfl, m, _, rfl, .inl (SqL.of (sh _ _ hm)), rfl, fl _, _, rfl, ?_⟩
      have ei : (if false = true then !inV (.int k.2.1.n) (ws.map V.int) else inV (.int k.2.1.n) (ws.map V.int)) = decide (k.2.1.n ∈ ws) := by
        rw [if_neg Bool.false_ne_true]
        exact inV_mem
      rw [ei]
      by_cases c : k.2.1.n ∈ ws
      · refine iteD c ?_
        refine ⟨_, rfl, k.1, _, _, _, rfl, rfl, SqT.of (sh _ _ k1), rfl, _, _, rfl, rfl, sz 2 (by decide), fun b H3 s3 n3 h3 => z b H3 s3 ?_⟩
        rw [h3]
        unfold lessN
        rw [if_pos c]
      · refine iteDn c ?_
        refine ⟨_, rfl, k.1, _, _, _, rfl, rfl, SqT.of (sh _ _ k1), rfl, sz 2 (by decide), fun b H3 s3 n3 h3 => z b H3 s3 ?_⟩
        rw [h3]
        unfold lessN
        rw [if_neg c]
  rw [ml, tak_fll, fil_true] at eb
  have lb : bs.length = xs.length := by
    have := congrArg List.length eb
    rw [List.length_map, List.length_map] at this
    exact this
  have mb : (bs.map fun b => V.ref b.1).length = bs.length := List.length_map _
  refine ⟨_, rfl, D, rfl, ⟨_, SqL.of hD⟩, ?_⟩
  have parts : ∀ b, b ∈ bs → ∃ (a : Addr) (i : Int), b.2 = [.ref a, .int i] := fun b hb' => by
    have : b.2 ∈ bs.map (·.2) := List.mem_map.mpr ⟨b, hb', rfl⟩
    rw [eb] at this
    obtain ⟨k, _, e⟩ := List.mem_map.mp this
    exact ⟨_, _, e.symm⟩
  refine comp_list (xs := bs.map fun b => V.ref b.1) (tak bs fun b => plV b.2) (itm bs fun b => V.ref b.1) (SqL.of hD) ?_ ?_ (small1000 (by rw [mb, lb]; exact Nat.le_trans hx.len (by decide))) (fun D3 H3 s3 nD3 hD3 => ?_)
  · intro i x Hh Q' hi sh q'
    rw [List.getElem?_map] at hi
    cases e : bs[i]? with
    | none => rw [e] at hi; cases hi
    | some b =>
      rw [e] at hi
      cases hi
      have hbm := List.mem_of_getElem? e
      have z := q' Hh (Same.refl _)
      unfold tak at z
      rw [e] at z
      obtain ⟨a, n, e2⟩ := parts b hbm
      have z : Q' (plV b.2) Hh := z
      rw [e2] at z
      have g := sh _ _ (hb b hbm)
      rw [e2] at g
      exact ⟨_, rfl, b.1, _, _, _, rfl, rfl, SqT.of g, rfl, _, _, rfl, rfl, _, rfl, z⟩
  · intro i x Hh Q' hi _ sh q'
    rw [List.getElem?_map] at hi
    cases e : bs[i]? with
    | none => rw [e] at hi; cases hi
    | some b =>
      rw [e] at hi
      cases hi
      have z := q' Hh (Same.refl _)
      unfold itm at z
      rw [e] at z
      exact ⟨_, rfl, z⟩
  rw [mb, tak_fil] at hD3
  exact q D3 H3 _ (s2.trans s3) (Same.free s2 nD3) ⟨hD3, fun b hb' => s3 _ _ (hb b (List.mem_filter.mp hb').1), bh_eq eb⟩
theorem sc_turn_done : FnScope ["chores", "hands", "turn", "numbers"] ["chores", "hands", "turn"] (defScope s_turn_done) := ⟨rfl, rfl, rfl, by decide +kernel, rfl, by decide +kernel, by decide +kernel⟩
theorem ok_turn_done (D : Dfn K mg "turn_done" s_turn_done ["chores", "hands", "turn"] f fd) (T : Txt K mg) (C_numbers_worked : Cal P w K mg base "numbers_worked" 8 ["chores", "hands", "turn"] (spWorked K tT)) (C_chores_behind : Cal P w K mg base "chores_behind" 1 ["chores", "numbers"] (spBehind K)) : Cal P w K mg base "turn_done" 9 ["chores", "hands", "turn"] (spDone K tT) := by
  refine D.cal (D.F.ok sc_turn_done (fun vs H Q E h => ?_) (fun cdv A outer s H vs Q E hr h => ?_))
  · obtain ⟨l, xs, h, t, rfl, _⟩ := h
    rfl
  obtain ⟨l, xs, h, t, rfl, hx, h0, hT, q⟩ := h
  refine ⟨_, (pss_cons (ps_set (i := 3) sc_turn_done.nd rfl (Or.inl rfl) (pe_cal C_numbers_worked (hr.mono (by decide)) rfl (pa_cons (pv 0) (pa_cons (pv 1) (pa_cons (pv 2) pa_nil)))))
      (pss_one (ps_ret (pe_tupS (pa_cons (pv 3) (pa_cons (pe_cal C_chores_behind (hr.mono (by decide)) rfl (pa_cons (pv 0) (pa_cons (pv 3) pa_nil))) pa_nil)))))), ?_⟩
  refine ⟨_, rfl, _, rfl, _, rfl, l, xs, h, t, rfl, hx, h0, hT, fun m H1 s1 n1 h1 => ?_⟩
  refine ⟨_, rfl, _, rfl, _, rfl, l, m, xs, _, rfl, hx.same s1, h1, fun D H2 bs s2 nD B => ?_⟩
  rw [behL_same hx.chs s1] at B
  have mD : m ≠ D := fun z => by rw [← z, h1] at nD; cases nD
  exact ⟨sz 2 (by decide), fun p H3 s3 n3 h3 => q p m D H3 bs (s1.trans (s2.trans s3)) h3 n1 (Same.free s1 nD) mD (s3 _ _ (s2 _ _ h1)) (B.same s3)⟩
theorem sc_is_whole : FnScope ["thing", "low", "high"] ["thing", "low", "high"] (defScope s_is_whole) := ⟨rfl, rfl, rfl, by decide +kernel, rfl, by decide +kernel, by decide +kernel⟩
theorem ok_is_whole (D : Dfn K mg "is_whole" s_is_whole ["thing", "low", "high"] f fd) (T : Txt K mg) : Cal P w K mg base "is_whole" 1 ["thing", "low", "high"] spWholeI := by
  refine D.cal (D.F.ok sc_is_whole (fun vs H Q E h => ?_) (fun cdv A outer s H vs Q E hr h => ?_))
  · obtain ⟨i, lo, hi, rfl, _⟩ := h
    rfl
  obtain ⟨i, lo, hi, rfl, q⟩ := h
  refine ⟨_, (pss_cons (ps_if (PW.pt (pw_or (pt_val (pe_callB (call_isT (n := "bool")) rfl T.b_isinstance bt_isinstance (pa_cons (pv 0) (pa_cons (pe_bltn (v := .ty "bool") rfl T.b_bool bt_bool rfl) pa_nil)))) (pw_or1 (pt_not (pt_val (pe_callB (call_isT (n := "int")) rfl T.b_isinstance bt_isinstance (pa_cons (pv 0) (pa_cons (pe_bltn (v := .ty "int") rfl T.b_int bt_int rfl) pa_nil)))))))) (pss_one (ps_ret pe_bl)) pss_nil)
      (pss_one (ps_ret (pe_chain op_le op_le (pv 1) (pv 0) (pv 2))))), ?_⟩
  refine ⟨_, rfl, _, _, _, rfl, .int i, T.q_int_bool, _, rfl, iteF ?_⟩
  refine ⟨_, rfl, _, _, _, rfl, .int i, T.q_int_int, _, rfl, iteF ?_⟩
  refine ⟨_, rfl, _, rfl, _, _, rfl, rfl, _, rfl, ?_⟩
  refine ite2 (fun c => ?_) (fun c => ?_)
  · rw [c, Bool.true_and] at q
    exact ⟨_, rfl, _, _, rfl, rfl, q⟩
  · rw [Bool.eq_false_iff.mpr c, Bool.false_and] at q
    exact q
theorem sc_work_taken : FnScope ["chore", "real", "number", "turns"] ["chore", "real"] (defScope s_work_taken) := ⟨rfl, rfl, rfl, by decide +kernel, rfl, by decide +kernel, by decide +kernel⟩
theorem ok_work_taken (D : Dfn K mg "work_taken" s_work_taken ["chore", "real"] f fd) (T : Txt K mg) (C_is_whole : Cal P w K mg base "is_whole" 1 ["thing", "low", "high"] spWholeI) : Cal P w K mg base "work_taken" 4 ["chore", "real"] (spWTaken P w K mg base) := by
  refine D.cal (D.F.ok sc_work_taken (fun vs H Q E h => ?_) (fun cdv A outer s H vs Q E hr h => ?_))
  · obtain ⟨p, f, y, L, rfl, _⟩ := h
    rfl
  obtain ⟨p, f, y, L, rfl, hy, y0, F, ⟨r, hv, r0⟩, q⟩ := h
  refine ⟨_, (pss_cons (ps_set (i := 2) sc_work_taken.nd rfl (Or.inl rfl) (pe_ix ix_tup (pe_ix ix_tup (pv 0) pe_int (fun _ _ => rfl)) pe_int (fun _ _ => rfl)))
      (pss_cons (ps_set (i := 3) sc_work_taken.nd rfl (Or.inl rfl) (pe_calV (k := 3) (i := 1) (hr.mono (by decide)) (pa_cons (pv 2) pa_nil)))
      (pss_cons (ps_if (pt_not (pt_val (pe_cal C_is_whole (hr.mono (by decide)) rfl (pa_cons (pv 3) (pa_cons pe_int (pa_cons (pv 3) pa_nil)))))) (pss_one ps_never) pss_nil)
      (pss_one (ps_ret (pe_callB (call_min2 rfl) rfl T.b_min bt_min (pa_cons (pv 3) (pa_cons (pe_ix ix_tup (pv 0) pe_int (fun _ _ => rfl)) pa_nil)))))))), ?_⟩
  obtain ⟨k1, k2⟩ := hy.kc
  obtain ⟨_, _, c1, _, _⟩ := id k2.ex
  refine ⟨_, rfl, p, _, _, _, rfl, rfl, SqT.of k1, rfl, _, _, _, _, rfl, rfl, SqT.of c1, rfl, ?_⟩
  refine ⟨f, rfl, _, rfl, spWk L, F, y.1.n, r, rfl, hv, ?_⟩
  refine ⟨_, rfl, _, rfl, r, 0, r, rfl, ?_⟩
  rw [decide_eq_true r0, decide_eq_true (Int.le_refl r)]
  refine ⟨_, rfl, iteF ?_⟩
  refine ⟨_, rfl, _, rfl, p, _, _, _, rfl, rfl, SqT.of k1, rfl, _, _, rfl, ?_⟩
  unfold tkN at q
  rw [hv] at q
  exact q
theorem sc_chores_taken : FnScope ["chores", "real"] ["chores", "real"] (defScope s_chores_taken) := ⟨rfl, rfl, rfl, by decide +kernel, rfl, by decide +kernel, by decide +kernel⟩
theorem ok_chores_taken (D : Dfn K mg "chores_taken" s_chores_taken ["chores", "real"] f fd) (T : Txt K mg) (C_work_taken : Cal P w K mg base "work_taken" 4 ["chore", "real"] (spWTaken P w K mg base)) : Cal P w K mg base "chores_taken" 5 ["chores", "real"] (spTaken P w K mg base) := by
  refine D.cal (D.F.ok sc_chores_taken (fun vs H Q E h => ?_) (fun cdv A outer s H vs Q E hr h => ?_))
  · obtain ⟨l, f, xs, L, rfl, _⟩ := h
    rfl
  obtain ⟨l, f, xs, L, rfl, hI, F, kn, q⟩ := h
  refine ⟨_, (pss_cons (ps_if (pt_cmpR op_isN (pv 1) pe_non (nomark _)) (pss_one (ps_ret (pv 0))) pss_nil)
      (pss_one (ps_ret (pe_comp (N := ["chore", "real"]) (js := [1]) rfl (CompScope.of rfl rfl rfl rfl rfl (by decide +kernel) rfl rfl rfl rfl) (pi_list (pv 0)) (fun _ _ _ _ _ => ct_nil) (fun _ _ _ _ _ => (pe_tupS (pa_cons (pe_ix (r := rIxT K) ix_tup (pv 0) pe_int (fun _ _ => rfl)) (pa_cons (pe_cal C_work_taken (hr.mono (by decide)) rfl (pa_cons (pv 0) (pa_cons (pv 1) pa_nil))) pa_nil)))))))), ?_⟩
  · refine ⟨_, rfl, rfl, _, rfl, iteF ?_⟩
    have ml : (xs.map fun q => V.ref q.1).length = xs.length := List.length_map _
    have x40 := hI.len
    refine ⟨_, rfl, l, rfl, ⟨_, SqL.of hI.chs.at_⟩, ?_⟩
    refine comp_tupsR (xs := xs.map fun q => V.ref q.1) (fun i t => ∃ k r, xs[i]? = some k ∧ t = [.ref (kcOf H k.1), .int r] ∧ 0 ≤ r ∧ r ≤ k.2.2 ∧ r = tkN L k.2) (SqL.of hI.chs.at_) (fun i x Hh Q' hx sh q' => q' Hh (Same.refl _)) ?_ (small1000 (by rw [ml]; omega)) (fun D H2 bs s2 nD hD lb rb hb => ?_)
    · intro i x Hh Q' hi sh q'
      rw [List.getElem?_map] at hi
      cases e : xs[i]? with
      | none => rw [e] at hi; cases hi
      | some k =>
        rw [e] at hi
        cases hi
        have hk := List.mem_of_getElem? e
        obtain ⟨k1, k2⟩ := (hI.chs.ch k hk).kc
        have l0 := (hI.ok k hk).l0
        obtain ⟨r, hr, r0⟩ := kn k hk
        have t0 : 0 ≤ tkN L k.2 ∧ tkN L k.2 ≤ k.2.2 := by
          unfold tkN
          rw [hr]
          show 0 ≤ (if k.2.2 < r then k.2.2 else r) ∧ (if k.2.2 < r then k.2.2 else r) ≤ k.2.2
          split <;> omega
        refine ⟨_, rfl, k.1, _, _, _, rfl, rfl, SqT.of (sh _ _ k1), rfl, _, rfl, _, rfl, k.1, f, k.2, L, rfl, (hI.chs.ch k hk).same sh, l0, F.same sh, kn k hk, ⟨sz 2 (by decide), fun b H3 s3 n3 h3 => q' b _ H3 s3 ⟨k, _, e, rfl, t0.1, t0.2, rfl⟩ h3⟩⟩
    rw [ml] at lb
    have R : ∀ i, i < bs.length → ∃ y : Addr × Cl × Int, ∃ b k, bs[i]? = some b ∧ xs[i]? = some k ∧ y.1 = b.1 ∧ y.2.1 = k.2.1 ∧ b.2 = [.ref (kcOf H k.1), .int y.2.2] ∧ 0 ≤ y.2.2 ∧ y.2.2 ≤ k.2.2 ∧ y.2.2 = tkN L k.2 := fun i hi => by
      have e := List.getElem?_eq_getElem hi
      obtain ⟨k, r, e1, e2, e3, e4, e5⟩ := rb i _ e
      exact ⟨(bs[i].1, k.2.1, r), bs[i], k, e, e1, rfl, rfl, e2, e3, e4, e5⟩
    obtain ⟨ys, ly, ry⟩ := list_choice _ bs.length R
    have mem : ∀ y, y ∈ ys → ∃ b k, b ∈ bs ∧ k ∈ xs ∧ y.1 = b.1 ∧ y.2.1 = k.2.1 ∧ b.2 = [.ref (kcOf H k.1), .int y.2.2] ∧ 0 ≤ y.2.2 ∧ y.2.2 ≤ k.2.2 ∧ y.2.2 = tkN L k.2 := fun y hy => by
      obtain ⟨i, hi, ei⟩ := List.getElem_of_mem hy
      have e := List.getElem?_eq_getElem hi
      rw [ei] at e
      obtain ⟨b, k, e1, e2, r⟩ := ry i y e
      exact ⟨b, k, List.mem_of_getElem? e1, List.mem_of_getElem? e2, r⟩
    have er : (ys.map fun q => V.ref q.1) = bs.map fun b => V.ref b.1 := by
      refine List.ext_getElem? fun i => ?_
      rw [List.getElem?_map, List.getElem?_map]
      cases e : ys[i]? with
      | none =>
        have := List.getElem?_eq_none_iff.mp e
        rw [List.getElem?_eq_none (l := bs) (by omega)]
        rfl
      | some y =>
        obtain ⟨b, k, e1, _, e3, _⟩ := ry i y e
        rw [e1]
        exact congrArg (fun z => some (V.ref z)) e3
    have ec : ys.map (·.2.1) = xs.map (·.2.1) := by
      refine List.ext_getElem? fun i => ?_
      rw [List.getElem?_map, List.getElem?_map]
      cases e : ys[i]? with
      | none =>
        have := List.getElem?_eq_none_iff.mp e
        rw [List.getElem?_eq_none (l := xs) (by omega)]
      | some y =>
        obtain ⟨b, k, _, e2, _, e4, _⟩ := ry i y e
        rw [e2]
        exact congrArg some e4
    have et : ys.map (·.2) = takC L (xs.map (·.2)) := by
      unfold takC
      rw [List.map_map]
      refine List.ext_getElem? fun i => ?_
      rw [List.getElem?_map, List.getElem?_map]
      cases e : ys[i]? with
      | none =>
        have := List.getElem?_eq_none_iff.mp e
        rw [List.getElem?_eq_none (l := xs) (by omega)]
        rfl
      | some y =>
        obtain ⟨b, k, _, e2, _, e4, _, _, _, e8⟩ := ry i y e
        rw [e2]
        show some y.2 = some (k.2.1, tkN L k.2)
        rw [← e4, ← e8]
    refine q D H2 ys s2 ⟨⟨by rw [er]; exact hD, fun y hy => ?_⟩, by rw [ly, lb]; exact x40, fun y hy => ?_, ?_⟩ et
    · obtain ⟨b, k, b1, b2, b3, b4, b5, _⟩ := mem y hy
      refine ⟨kcOf H k.1, ?_, ?_⟩
      · rw [b3, hb b b1, b5]
      · rw [b4]
        exact (hI.chs.ch k b2).kc.2.same s2
    · obtain ⟨b, k, b1, b2, b3, b4, b5, b6, b7, _⟩ := mem y hy
      have o := hI.ok k b2
      exact ⟨by rw [b4]; exact o.ok, b6, Int.le_trans b7 o.l1, by rw [b4]; exact o.cm⟩
    · have := congrArg (List.map (·.n)) ec
      rw [List.map_map, List.map_map] at this
      have e2 : ys.map (·.2.1.n) = xs.map (·.2.1.n) := this
      rw [e2]
      exact hI.nd
theorem sc_run_of : FnScope ["chores", "hands", "begin", "real", "left", "turn", "rows", "step"] ["chores", "hands", "begin", "real"] (defScope s_run_of) := ⟨rfl, rfl, rfl, by decide +kernel, rfl, by decide +kernel, by decide +kernel⟩
theorem ok_run_of (D : DfnD K mg "run_of" s_run_of ["chores", "hands", "begin", "real"] f fd) (T : Txt K mg) (C_chores_behind : Cal P w K mg base "chores_behind" 1 ["chores", "numbers"] (spBehind K)) (C_turn_done : Cal P w K mg base "turn_done" 9 ["chores", "hands", "turn"] (spDone K tT)) (C_chores_taken : Cal P w K mg base "chores_taken" 5 ["chores", "real"] (spTaken P w K mg base)) : CalD P w K mg base "run_of" 10 ["chores", "hands", "begin", "real"] (spRun P w K mg base tT) := by
  refine D.cal (D.F.ok sc_run_of (fun vs H Q E h => ?_) (fun cdv A outer s H vs Q E hr h => ?_))
  · obtain ⟨l, f, xs, L, h, b, rfl, _⟩ := h
    rfl
  obtain ⟨l0, rv, xs0, L, h, b, rfl, hI0, h0, b0, b1, hT0, hF, hK, q0⟩ := h
  refine ⟨_, (pss_cons (ps_set (i := 4) sc_run_of.nd rfl (Or.inl rfl) (pe_cal C_chores_behind (hr.mono (by decide)) rfl (pa_cons (pe_cal C_chores_taken (hr.mono (by decide)) rfl (pa_cons (pv 0) (pa_cons (pv 3) pa_nil))) (pa_cons (pe_lstS pa_nil) pa_nil))))
      (pss_cons (ps_set (i := 5) sc_run_of.nd rfl (Or.inl rfl) (pv 2))
      (pss_cons (ps_set (i := 6) sc_run_of.nd rfl (Or.inl rfl) (pe_lstS pa_nil))
      (pss_cons (ps_while PassesOwn.never (PW.pt (pw_and (pt_cmpR op_gt (pe_callB call_len_seq rfl T.b_len bt_len (pa_cons (pv 4) pa_nil)) pe_int (nomark _)) (pw_and1 (pt_cmpR op_gt (pv 1) pe_int (nomark _))))) (pss_cons (ps_set (i := 7) sc_run_of.nd rfl (Or.inl rfl) (pe_cal C_turn_done (hr.mono (by decide)) rfl (pa_cons (pv 4) (pa_cons (pv 1) (pa_cons (pv 5) pa_nil)))))
      (pss_cons (ps_expr (pe_bm PySem.F.plainAttrs_list PySem.F.slot_list_append PySem.F.type_list_append mt_appendS (pv 6) (pa_cons (pe_tupS (pa_cons (pv 5) (pa_cons (pe_ix ix_tup (pv 7) pe_int (fun _ _ => rfl)) pa_nil))) pa_nil)))
      (pss_cons (ps_set (i := 4) sc_run_of.nd rfl (Or.inl rfl) (pe_ix ix_tup (pv 7) pe_int (fun _ _ => rfl)))
      (pss_one (ps_aug (i := 5) sc_run_of.nd rfl (Or.inl rfl) pe_int ip_add))))))
      (pss_one (ps_ret (pv 6))))))), ?_⟩
  refine ⟨_, rfl, _, rfl, l0, rv, xs0, L, rfl, hI0, hF, hK, fun l H01 xs s01 hI lq => ?_⟩
  have hT := s01 _ _ hT0
  have q : ∀ D H' rs, Same H01 H' → H01 D = none → RunOf H01 H' h.toNat b (xs.map (·.2)) D rs → (∀ r, r ∈ rs → r.2.2.2.length ≤ 40) → rs.length ≤ 1481 → Q (.ref D) H' := fun D H' rs s n R l40 l14 => q0 D H' rs (s01.trans s) (Same.free s01 n) (lq ▸ ⟨R.run, fun r hr => Same.free s01 (R.new r hr), R.ne, R.eq⟩) l40 l14
  refine ⟨sz 0 (by decide), fun l1 H1 s1 n1 h1 => ?_⟩
  refine ⟨l, l1, xs, [], rfl, hI.same s1, h1, fun D1 H2 bs s2 nD1 B => ?_⟩
  obtain ⟨hI2, e2⟩ := (hI.same s1).next s2 B
  refine ⟨_, rfl, sz 0 (by decide), fun D H3 s3 n3 h3 => ?_⟩
  have s02 := s1.trans s2
  generalize hc0 : bhC [] (xs.map (·.2)) = c0 at e2
  have hn : 0 < h.toNat := by omega
  have s480 : sumC c0 ≤ 480 := by rw [← e2]; exact hI2.sum
  refine while_by (fun σ' H' => ∃ (l' : Addr) (xs' : List (Addr × Cl × Int)) (rs : List (Addr × Addr × Int × List Int)) (n : Nat) (v7 : Option V), σ' = [some (.ref l0), some (.int h), some (.int b), some (.ref rv), some (.ref l'), some (.int (b + n)), some (.ref D), v7] ∧ Same H2 H' ∧ ChIn K H' l' xs' ∧ xs'.map (·.2) = (runN h.toNat n b c0).2 ∧ (∀ k, k ∈ (runN h.toNat n b c0).2 → 0 < k.2) ∧ IsRun H' D rs ∧ rs.map (fun r => (r.2.2.1, r.2.2.2)) = (runN h.toNat n b c0).1 ∧ (∀ r, r ∈ rs → H2 r.2.1 = none ∧ r.2.1 ≠ D ∧ r.2.2.2.length ≤ 40) ∧ (∀ k, k < n → (runN h.toNat k b c0).2 ≠ []) ∧ n + (sumC (runN h.toNat n b c0).2 + (1001 - (b + n)).toNat) ≤ sumC c0 + (1001 - b).toNat)
    (fun σ' _ => match σ' with | [_, _, _, _, _, some (.int t), _, _] => sumC (runN h.toNat (t - b).toNat b c0).2 + (1001 - t).toNat | _ => 0) ?_ ?_ ?_
  · refine ⟨D1, _, [], 0, _, by rw [show b + ((0 : Nat) : Int) = b by omega]; rfl, s3, hI2.same s3, e2, ?_, ⟨h3, fun r hr => by simp at hr, fun r hr => by simp at hr⟩, rfl, fun r hr => by simp at hr, fun k hk => by omega, by show 0 + (sumC c0 + (1001 - (b + ((0 : Nat) : Int))).toNat) ≤ _; omega⟩
    show ∀ k, k ∈ c0 → 0 < k.2
    rw [← hc0]
    exact fun k hk => bhC_pos hk
  · rintro σ' H4 ⟨l', xs', rs, n, v7, rfl, s4, hI4, ex, pos, R, er, hr, ln, rl⟩
    have mx : (xs'.map fun q => V.ref q.1).length = xs'.length := List.length_map _
    refine ⟨_, rfl, l', _, rfl, .inl (SqL.of hI4.chs.at_), _, _, rfl, rfl, _, rfl, ?_⟩
    rw [mx]
    have lrs : rs.length = n := by
      have := congrArg List.length er
      rw [List.length_map, rwN_len] at this
      exact this
    cases exs : xs' with
    | nil =>
      subst exs
      refine iteDn (by simp) (iteF ?_)
      refine ⟨_, rfl, q D H4 rs (s02.trans s4) (Same.free s02 n3) ⟨R, fun r h' => Same.free s02 (hr r h').1, fun r h' => (hr r h').2.1, n, by rw [hc0]; exact er, by rw [hc0]; exact ex.symm, by rw [hc0]; exact ln⟩ (fun r h' => (hr r h').2.2) (by rw [lrs]; omega)⟩
    | cons x0 xt =>
      rw [← exs]
      have ne : (runN h.toNat n b c0).2 ≠ [] := by rw [← ex, exs]; simp
      refine iteD (by rw [exs, List.length_cons]; omega) ?_
      refine ⟨_, rfl, _, _, rfl, rfl, _, rfl, iteD h0 ?_⟩
      refine ⟨_, rfl, _, rfl, _, rfl, l', xs', h, _, rfl, hI4, by omega, s4 _ _ (s02 _ _ hT), fun p m2 D2 H5 bs2 s5 hp nm nD2 mD hm2 B2 => ?_⟩
      have R5 := R.same s5
      have m2D : m2 ≠ D := fun z => by rw [z, R.at_] at nm; cases nm
      refine ⟨_, rfl, .inl ⟨rfl, _, SqL.of R5.at_⟩, _, rfl, _, rfl, p, _, _, _, rfl, rfl, SqT.of hp, rfl, sz 2 (by decide), fun p6 H6 s6 n6 h6 => ?_⟩
      have R6 := R5.same s6
      refine ⟨D, _, _, rfl, rfl, R6.at_, ?_, fun H7 k7 h7 => ?_⟩
      · rw [List.length_map, lrs]
        have z : (100000 : Nat) ≤ sizeLine := by decide
        omega
      have hp6 := s6 _ _ hp
      have hp7 := k7 _ _ (fun z => by rw [z, R6.at_] at hp6; cases hp6) hp6
      refine ⟨_, rfl, p, _, _, _, rfl, rfl, SqT.of hp7, rfl, ?_⟩
      obtain ⟨hI5, e5⟩ := hI4.next s5 B2
      have D2D : D2 ≠ D := fun z => by rw [z, R.at_] at nD2; cases nD2
      have B6 := B2.same s6
      have B7 : IsBh H7 D2 (behL H4 (workL (b + n) h.toNat xs') xs') bs2 := ⟨k7 _ _ D2D B6.at_, fun c hc => k7 _ _ (fun z => by have := B6.rw c hc; rw [z, R6.at_] at this; cases this) (B6.rw c hc), B6.eq⟩
      have s47 : Same H2 H7 := (s4.trans (s5.trans s6)).but n3 k7
      have hI7 : ChIn K H7 D2 (zipB bs2 (behL H4 (workL (b + n) h.toNat xs') xs')) := by
        have hI6 := hI5.same s6
        exact ⟨hI6.chs.but k7 R6.at_ D2D, hI6.len, hI6.ok, hI6.nd⟩
      have ew : workL (b + n) h.toNat xs' = wkC (b + n) h.toNat (runN h.toNat n b c0).2 := by rw [workL_C, ex]
      have dn := run_down (t := b + n) hn ne pos (by rw [← ex]; exact hI4.cm)
      refine ⟨_, rfl, _, _, rfl, rfl, ⟨D2, zipB bs2 (behL H4 (workL (b + n) h.toNat xs') xs'), rs ++ [(p6, m2, b + n, workL (b + n) h.toNat xs')], n + 1, _, by rw [show b + ((n + 1 : Nat) : Int) = b + n + 1 by omega]; rfl, s47, hI7, ?_, ?_, ?_, ?_, ?_, ?_, ?_⟩, ?_⟩
      · rw [e5, ex, rwN_succ, ew]
      · rw [rwN_succ]
        exact fun k hk => bhC_pos hk
      · exact R6.app k7 h7 h6 (s6 _ _ hm2) m2D fun r h' => (hr r h').2.1
      · rw [List.map_append, er, rwN_succ, ← ew]
        rfl
      · intro r h'
        rcases List.mem_append.mp h' with h' | h'
        · exact hr r h'
        · rw [List.mem_singleton.mp h']
          exact ⟨Same.free s4 nm, m2D, wk_len hI4 _ _⟩
      · intro k hk
        by_cases kn : k = n
        · subst kn
          exact ne
        · exact ln k (by omega)
      · rw [rwN_succ]
        show n + 1 + (sumC (bhC (wkC (b + n) h.toNat (runN h.toNat n b c0).2) (runN h.toNat n b c0).2) + (1001 - (b + ((n + 1 : Nat) : Int))).toNat) ≤ _
        omega
      · show sumC (runN h.toNat (b + n + 1 - b).toNat b c0).2 + (1001 - (b + n + 1)).toNat < sumC (runN h.toNat (b + n - b).toNat b c0).2 + (1001 - (b + n)).toNat
        rw [show (b + (n : Int) + 1 - b).toNat = n + 1 by omega, show (b + (n : Int) - b).toNat = n by omega, rwN_succ]
        exact dn
  · intro σ' H' Q1 Q2 hq h
    obtain ⟨v1, e1, a, ys, e3, hs, i, j, e4, e5, bb, eb, h⟩ := h
    refine ⟨v1, e1, a, ys, e3, hs, i, j, e4, e5, bb, eb, ?_⟩
    by_cases c : bb = true
    · rw [if_pos c] at h ⊢
      obtain ⟨w1, f1, i2, j2, f3, f4, b2, f5, h⟩ := h
      exact ⟨w1, f1, i2, j2, f3, f4, b2, f5, hq _ _ h⟩
    · rw [if_neg c] at h ⊢
      exact hq _ _ h
def spNums (K : PySem.W.Frag) : Sp := fun vs H Q _ => ∃ (a b : Addr) (ws : List Int), vs = [.ref a, .ref b] ∧ H a = some (.lst (ws.map V.int)) ∧ H b = some (.lst (ws.map V.int)) ∧ ws.length ≤ 40 ∧ ∀ H', Same H H' → Q (.bl true) H'
theorem sc_are_numbers : FnScope ["thing", "numbers"] ["thing", "numbers"] (defScope s_are_numbers) := ⟨rfl, rfl, rfl, by decide +kernel, rfl, by decide +kernel, by decide +kernel⟩
theorem ok_are_numbers (D : Dfn K mg "are_numbers" s_are_numbers ["thing", "numbers"] f fd) (T : Txt K mg) (C_is_whole : Cal P w K mg base "is_whole" 1 ["thing", "low", "high"] spWholeI) : Cal P w K mg base "are_numbers" 2 ["thing", "numbers"] (spNums K) := by
  refine D.cal (D.F.ok sc_are_numbers (fun vs H Q E h => ?_) (fun cdv A outer s H vs Q E hr h => ?_))
  · obtain ⟨a, b, ws, rfl, _⟩ := h
    rfl
  obtain ⟨a, b, ws, rfl, ha, hb, l40, q⟩ := h
  refine ⟨_, (pss_cons (ps_if (PW.pt (pw_or (pt_not (pt_val (pe_callB (call_isT (n := "list")) rfl T.b_isinstance bt_isinstance (pa_cons (pv 0) (pa_cons (pe_bltn (v := .ty "list") rfl T.b_list bt_list rfl) pa_nil))))) (pw_or1 (pt_cmpR op_ne (pe_callB call_len_seq rfl T.b_len bt_len (pa_cons (pv 0) pa_nil)) (pe_callB call_len_seq rfl T.b_len bt_len (pa_cons (pv 1) pa_nil)) (nomark _))))) (pss_one (ps_ret pe_bl)) pss_nil)
      (pss_one (ps_ret (pe_callB (call_allB rfl) rfl T.b_all bt_all (pa_cons (pe_compT (nk := 2) (g := (gTup K 2 (gCons (gName 0) (gCons (gName 1) gNil)))) (N := ["part", "number"]) (js := []) rfl (CompScopeN.of rfl rfl rfl rfl rfl (by decide +kernel) rfl rfl rfl) (fun _ _ _ _ _ hn => (pg_tup rfl (pgs_cons (hn 0 _ _ rfl (by decide)) (pgs_cons (hn 1 _ _ rfl (by decide)) pgs_nil)))) (pi_zip rfl T.b_zip (pa_cons (pv 0) (pa_cons (pv 1) pa_nil))) (fun _ _ _ _ _ => ct_nil) (fun _ _ _ _ _ => (pe_cal C_is_whole (hr.mono (by decide)) rfl (pa_cons (pv 0) (pa_cons (pv 1) (pa_cons (pv 1) pa_nil)))))) pa_nil))))), ?_⟩
  have ml : (ws.map V.int).length = ws.length := List.length_map _
  refine ⟨_, rfl, _, _, _, rfl, .lst ha, T.q_list_list, _, rfl, iteF ?_⟩
  refine ⟨_, rfl, a, _, rfl, .inl (SqL.of ha), _, rfl, b, _, rfl, .inl (SqL.of hb), rfl, _, rfl, ?_⟩
  rw [decide_eq_true (rfl : V.int ((ws.map V.int).length : Int) = _)]
  refine iteF ?_
  refine ⟨_, rfl, _, rfl, a, b, rfl, ⟨_, SqL.of ha⟩, ⟨_, SqL.of hb⟩, ?_⟩
  refine comp_zip (xs := ws.map V.int) (ys := ws.map V.int) (fun _ => V.bl true) (SqL.of ha) (SqL.of hb) rfl ?_ (fun x y Hh Q' q' => q') ?_ (small1000 (by rw [ml]; omega)) (fun D H2 s2 nD hD => ?_)
  · intro p x y Hh os R hp ol r
    obtain ⟨o1, o2, rfl⟩ := len2 ol
    exact ⟨p, _, rfl, SqT.of hp, rfl, _, _, rfl, _, _, rfl, rfl, r⟩
  · intro i x y Hh Q' hx hy sh q'
    rw [hx] at hy
    cases hy
    rw [List.getElem?_map] at hx
    cases e : ws[i]? with
    | none => rw [e] at hx; cases hx
    | some n =>
      rw [e] at hx
      cases hx
      refine ⟨_, rfl, _, rfl, _, rfl, n, n, n, rfl, ?_⟩
      rw [decide_eq_true (Int.le_refl n)]
      exact q' Hh (Same.refl _)
  refine ⟨D, (List.range (ws.map V.int).length).map fun _ => true, rfl, SqL.of (by rw [hD, List.map_map]; rfl), ?_⟩
  rw [List.all_eq_true.mpr fun y hy => by obtain ⟨_, _, rfl⟩ := List.mem_map.mp hy; rfl]
  exact q H2 s2
def spRowOf (K : PySem.W.Frag) : Sp := fun vs H Q _ => ∃ (p a b : Addr) (t : Int) (ws : List Int), vs = [.ref p, .int t, .ref b] ∧ H p = some (.tup [.int t, .ref a]) ∧ H a = some (.lst (ws.map V.int)) ∧ H b = some (.lst (ws.map V.int)) ∧ ws.length ≤ 40 ∧ ∀ H', Same H H' → Q (.bl true) H'
theorem sc_is_row_of : FnScope ["thing", "turn", "numbers"] ["thing", "turn", "numbers"] (defScope s_is_row_of) := ⟨rfl, rfl, rfl, by decide +kernel, rfl, by decide +kernel, by decide +kernel⟩
theorem ok_is_row_of (D : Dfn K mg "is_row_of" s_is_row_of ["thing", "turn", "numbers"] f fd) (T : Txt K mg) (C_is_whole : Cal P w K mg base "is_whole" 1 ["thing", "low", "high"] spWholeI) (C_are_numbers : Cal P w K mg base "are_numbers" 2 ["thing", "numbers"] (spNums K)) : Cal P w K mg base "is_row_of" 3 ["thing", "turn", "numbers"] (spRowOf K) := by
  refine D.cal (D.F.ok sc_is_row_of (fun vs H Q E h => ?_) (fun cdv A outer s H vs Q E hr h => ?_))
  · obtain ⟨p, a, b, t, ws, rfl, _⟩ := h
    rfl
  obtain ⟨p, a, b, t, ws, rfl, hp, ha, hb, l40, q⟩ := h
  refine ⟨_, (pss_cons (ps_if (PW.pt (pw_or (pt_not (pt_val (pe_callB (call_isT (n := "tuple")) rfl T.b_isinstance bt_isinstance (pa_cons (pv 0) (pa_cons (pe_bltn (v := .ty "tuple") rfl T.b_tuple bt_tuple rfl) pa_nil))))) (pw_or1 (pt_cmpR op_ne (pe_callB call_len_seq rfl T.b_len bt_len (pa_cons (pv 0) pa_nil)) pe_int (nomark _))))) (pss_one (ps_ret pe_bl)) pss_nil)
      (pss_one (ps_ret (pe_and (pe_cal C_is_whole (hr.mono (by decide)) rfl (pa_cons (pe_ix ix_tup (pv 0) pe_int (fun _ _ => rfl)) (pa_cons (pv 1) (pa_cons (pv 1) pa_nil)))) (pe_one (pe_cal C_are_numbers (hr.mono (by decide)) rfl (pa_cons (pe_ix ix_tup (pv 0) pe_int (fun _ _ => rfl)) (pa_cons (pv 2) pa_nil)))))))), ?_⟩
  refine ⟨_, rfl, _, _, _, rfl, .tup hp, T.q_tuple_tuple, _, rfl, iteF ?_⟩
  refine ⟨_, rfl, p, _, rfl, .inr (SqT.of hp), rfl, _, rfl, ?_⟩
  refine iteF ?_
  refine ⟨_, rfl, p, _, _, _, rfl, rfl, SqT.of hp, rfl, _, rfl, _, rfl, t, t, t, rfl, ?_⟩
  rw [decide_eq_true (Int.le_refl t)]
  refine ⟨_, rfl, iteT ?_⟩
  exact ⟨_, rfl, p, _, _, _, rfl, rfl, SqT.of hp, rfl, _, rfl, a, b, ws, rfl, ha, hb, l40, q⟩
abbrev rowsOf (rs : List (Addr × Addr × Int × List Int)) : List (Int × List Int) := rs.map fun r => (r.2.2.1, r.2.2.2)
theorem run_at {h : Nat} {b : Int} {c : Ch} {i : Nat} : ∀ {n : Nat}, i < n → (runN h n b c).1[i]? = some (b + i, wkC (b + i) h (runN h i b c).2)
  | n + 1, hi => by
    rw [rwN_succ]
    by_cases e : i < n
    · rw [List.getElem?_append_left (by rw [rwN_len]; exact e)]
      exact run_at e
    · have : i = n := by omega
      subst this
      rw [List.getElem?_append_right (by rw [rwN_len]; omega), rwN_len, Nat.sub_self]
      rfl
def spWalk (K : PySem.W.Frag) (tT : Addr) : Sp := fun vs H Q _ => ∃ (l D : Addr) (xs : List (Addr × Cl × Int)) (rs : List (Addr × Addr × Int × List Int)) (h b : Int) (n : Nat), vs = [.ref l, .int h, .int b, .ref D] ∧ ChIn K H l xs ∧ 0 < h ∧ 0 ≤ b ∧ b ≤ 1000 ∧ H tT = some (.tbl lamPos lamQ) ∧ IsRun H D rs ∧ rowsOf rs = (runN h.toNat n b (bhC [] (xs.map (·.2)))).1 ∧ (∀ r, r ∈ rs → r.2.2.2.length ≤ 40) ∧
  ∀ D' H' ys, Same H H' → H D' = none → ChIn K H' D' ys → ys.map (·.2) = (runN h.toNat n b (bhC [] (xs.map (·.2)))).2 → Q (.ref D') H'
theorem sc_walk_run : FnScope ["chores", "hands", "begin", "rows", "left", "turn", "row", "step"] ["chores", "hands", "begin", "rows"] (defScope s_walk_run) := ⟨rfl, rfl, rfl, by decide +kernel, rfl, by decide +kernel, by decide +kernel⟩
theorem ok_walk_run (D : Dfn K mg "walk_run" s_walk_run ["chores", "hands", "begin", "rows"] f fd) (T : Txt K mg) (C_chores_behind : Cal P w K mg base "chores_behind" 1 ["chores", "numbers"] (spBehind K)) (C_turn_done : Cal P w K mg base "turn_done" 9 ["chores", "hands", "turn"] (spDone K tT)) (C_is_row_of : Cal P w K mg base "is_row_of" 3 ["thing", "turn", "numbers"] (spRowOf K)) : Cal P w K mg base "walk_run" 10 ["chores", "hands", "begin", "rows"] (spWalk K tT) := by
  refine D.cal (D.F.ok sc_walk_run (fun vs H Q E h => ?_) (fun cdv A outer s H vs Q E hr h => ?_))
  · obtain ⟨l, D, xs, rs, h, b, n, rfl, _⟩ := h
    rfl
  obtain ⟨l, D0, xs, rs, h, b, n, rfl, hI, h0, b0, b1, hT, R, er, l40, q⟩ := h
  refine ⟨_, (pss_cons (ps_if (pt_not (pt_val (pe_callB (call_isT (n := "list")) rfl T.b_isinstance bt_isinstance (pa_cons (pv 3) (pa_cons (pe_bltn (v := .ty "list") rfl T.b_list bt_list rfl) pa_nil))))) (pss_one (ps_ret pe_non)) pss_nil)
      (pss_cons (ps_set (i := 4) sc_walk_run.nd rfl (Or.inl rfl) (pe_cal C_chores_behind (hr.mono (by decide)) rfl (pa_cons (pv 0) (pa_cons (pe_lstS pa_nil) pa_nil))))
      (pss_cons (ps_for PassesOwn.never rfl (pi_enumS rfl T.b_enumerate (pa_cons (pv 3) pa_nil) (pv 2)) (pg_tup rfl (pgs_cons (pg_name (i := 5) sc_walk_run.nd rfl (Or.inl rfl)) (pgs_cons (pg_name (i := 6) sc_walk_run.nd rfl (Or.inl rfl)) pgs_nil))) (pss_cons (ps_set (i := 7) sc_walk_run.nd rfl (Or.inl rfl) (pe_cal C_turn_done (hr.mono (by decide)) rfl (pa_cons (pv 4) (pa_cons (pv 1) (pa_cons (pv 5) pa_nil)))))
      (pss_cons (ps_if (pt_not (pt_val (pe_cal C_is_row_of (hr.mono (by decide)) rfl (pa_cons (pv 6) (pa_cons (pv 5) (pa_cons (pe_ix ix_tup (pv 7) pe_int (fun _ _ => rfl)) pa_nil)))))) (pss_one (ps_ret pe_non)) pss_nil)
      (pss_one (ps_set (i := 4) sc_walk_run.nd rfl (Or.inl rfl) (pe_ix ix_tup (pv 7) pe_int (fun _ _ => rfl)))))))
      (pss_one (ps_ret (pv 4)))))), ?_⟩
  refine ⟨_, rfl, _, _, _, rfl, .lst R.at_, T.q_list_list, _, rfl, iteF ?_⟩
  refine ⟨_, rfl, sz 0 (by decide), fun l1 H1 s1 n1 h1 => ?_⟩
  refine ⟨l, l1, xs, [], rfl, hI.same s1, h1, fun D1 H2 bs s2 nD1 B => ?_⟩
  obtain ⟨hI2, e2⟩ := (hI.same s1).next s2 B
  have s02 := s1.trans s2
  generalize hc0 : bhC [] (xs.map (·.2)) = c0 at e2 er q
  have mr : (rs.map fun r => V.ref r.1).length = rs.length := List.length_map _
  have lr : rs.length = n := by
    have := congrArg List.length er
    rw [List.length_map, rwN_len] at this
    exact this
  refine ⟨_, rfl, _, rfl, D0, b, rfl, rfl, b0, by omega, ⟨_, SqL.of (s02 _ _ R.at_)⟩, ?_⟩
  refine for_enumS (K := K) (a := D0) (c := b) (xs := rs.map fun r => V.ref r.1) (fun i σ H' => ∃ (l' : Addr) (xs' : List (Addr × Cl × Int)) (v5 v6 v7 : Option V), σ = [some (.ref l), some (.int h), some (.int b), some (.ref D0), some (.ref l'), v5, v6, v7] ∧ Same H H' ∧ H l' = none ∧ ChIn K H' l' xs' ∧ xs'.map (·.2) = (runN h.toNat i b c0).2)
    ⟨D1, _, _, _, _, rfl, s02, Same.free s1 nD1, hI2, e2⟩ (fun i σ H' _ ⟨_, _, _, _, _, _, s, _⟩ => SqL.of (s _ _ R.at_)) ?_ ?_
  · rintro i x σ H3 p H4 hi ⟨l', xs', v5, v6, v7, rfl, s3, nl, hI3, e3⟩ s4 np hp
    rw [List.getElem?_map] at hi
    cases e : rs[i]? with
    | none => rw [e] at hi; cases hi
    | some r =>
      rw [e] at hi
      cases hi
      have hr' := List.mem_of_getElem? e
      have ir : i < n := by
        have := (List.getElem?_eq_some_iff.mp e).1
        omega
      have ea := run_at (h := h.toNat) (b := b) (c := c0) ir
      rw [← er, List.getElem?_map, e] at ea
      have ea : some (r.2.2.1, r.2.2.2) = some (b + i, wkC (b + i) h.toNat (runN h.toNat i b c0).2) := ea
      injection ea with ea
      injection ea with ea1 ea2
      refine ⟨p, _, rfl, SqT.of hp, rfl, _, _, rfl, _, _, rfl, rfl, ?_⟩
      have hI4 := hI3.same s4
      refine ⟨_, rfl, _, rfl, _, rfl, l', xs', h, _, rfl, hI4, by omega, s4 _ _ (s3 _ _ hT), fun p2 m2 D2 H5 bs2 s5 hp2 nm nD2 mD hm2 B2 => ?_⟩
      obtain ⟨hI5, e5⟩ := hI4.next s5 B2
      have s35 := s3.trans (s4.trans s5)
      have ew : workL (b + i) h.toNat xs' = r.2.2.2 := by rw [workL_C, e3, ea2]
      rw [ew] at hm2
      have hrow := s35 _ _ (R.row r hr')
      rw [ea1] at hrow
      refine ⟨_, rfl, _, rfl, _, rfl, p2, _, _, _, rfl, rfl, SqT.of hp2, rfl, r.1, r.2.1, m2, _, r.2.2.2, rfl, hrow, s35 _ _ (R.num r hr'), hm2, l40 r hr', fun H6 s6 => ?_⟩
      refine ⟨_, rfl, iteF ?_⟩
      refine ⟨_, rfl, p2, _, _, _, rfl, rfl, SqT.of (s6 _ _ hp2), rfl, ?_⟩
      refine ⟨D2, _, _, _, _, rfl, s35.trans s6, Same.free (s3.trans s4) nD2, hI5.same s6, ?_⟩
      rw [e5, e3, rwN_succ, workL_C, e3]
  · rintro σ H3 ⟨l', xs', v5, v6, v7, rfl, s3, nl, hI3, e3⟩
    rw [mr, lr] at e3
    exact ⟨_, rfl, q l' H3 xs' s3 nl hI3 e3⟩
theorem sc_law_cell : FnScope ["_law_script", "_law_k"] ["_law_script", "_law_k"] (defScope s_law_cell) := ⟨rfl, rfl, rfl, by decide +kernel, rfl, by decide +kernel, by decide +kernel⟩
theorem ok_law_cell (D : Dfn K mg "_law_cell" s_law_cell ["_law_script", "_law_k"] f fd) (T : Txt K mg) : Cal P w K mg base "_law_cell" 1 ["_law_script", "_law_k"] (spCell K) := by
  refine D.cal (D.F.ok sc_law_cell (fun vs H Q E h => ?_) (fun cdv A outer s H vs Q E hr h => ?_))
  · obtain ⟨a, ns, k, rfl, _⟩ := h
    rfl
  obtain ⟨a, ns, k, rfl, hS, k0, q⟩ := h
  refine ⟨_, (pss_cons (ps_if (pt_cmpR op_lt (pv 1) (pe_callB call_len_seq rfl T.b_len bt_len (pa_cons (pv 0) pa_nil)) (nomark _)) (pss_one (ps_ret (pe_ix ix_list (pv 0) (pv 1) (fun _ _ => rfl)))) pss_nil)
      (pss_one (ps_ret (pe_op op_add (pe_op op_mul pe_int (pv 1)) pe_int)))), ?_⟩
  refine ⟨_, rfl, _, rfl, a, _, rfl, .inl hS, _, _, rfl, rfl, _, rfl, ?_⟩
  refine ite2 (fun c => ?_) (fun c => ?_)
  · have c' : k < (((ns.map V.int).length : Nat) : Int) := of_decide_eq_true c
    rw [List.length_map] at c'
    have hk : k.toNat < ns.length := by omega
    have z : atI (ns.map V.int) ((k.toNat : Nat) : Int) = some (.int ns[k.toNat]) := atI_nat (by rw [List.getElem?_map, List.getElem?_eq_getElem hk] <;> rfl)
    rw [show ((k.toNat : Nat) : Int) = k by omega] at z
    exact ⟨_, rfl, _, rfl, a, _, _, _, rfl, rfl, hS, z, q _⟩
  · exact ⟨_, rfl, _, _, rfl, rfl, .inl ⟨by decide, by decide⟩, _, _, rfl, rfl, q _⟩
theorem sc_law_mix : FnScope ["_law_cell_here", "_law_k", "_law_number"] ["_law_cell_here", "_law_k"] (defScope s_law_mix) := ⟨rfl, rfl, rfl, by decide +kernel, rfl, by decide +kernel, by decide +kernel⟩
theorem ok_law_mix (D : Dfn K mg "_law_mix" s_law_mix ["_law_cell_here", "_law_k"] f fd) (T : Txt K mg) : Cal P w K mg base "_law_mix" 1 ["_law_cell_here", "_law_k"] spMix := by
  refine D.cal (D.F.ok sc_law_mix (fun vs H Q E h => ?_) (fun cdv A outer s H vs Q E hr h => ?_))
  · obtain ⟨x, k, rfl, _⟩ := h
    rfl
  obtain ⟨x, k, rfl, q⟩ := h
  refine ⟨_, (pss_cons (ps_set (i := 2) sc_law_mix.nd rfl (Or.inl rfl) (pe_op op_mod (pe_op op_mul (pe_op op_add (pe_op op_add (pe_op op_mod (pv 0) pe_int) (pe_op op_mul pe_int (pv 1))) pe_int) pe_int) pe_int))
      (pss_cons (ps_set (i := 2) sc_law_mix.nd rfl (Or.inl rfl) (pe_op op_mod (pe_op op_mul (pv 2) (pv 2)) pe_int))
      (pss_one (ps_ret (pe_op op_mod (pe_op op_mul (pv 2) (pe_op op_add (pv 2) pe_int)) pe_int))))), ?_⟩
  refine ⟨_, rfl, _, _, rfl, rfl, (by show (0 : Int) < _; decide), _, rfl, _, _, rfl, rfl, .inl ⟨by decide, by decide⟩, _, _, rfl, rfl, _, _, rfl, rfl, _, _, rfl, rfl, .inr ⟨by decide, by decide⟩, _, _, rfl, rfl, (by show (0 : Int) < _; decide), ?_⟩
  have m0 := Int.emod_nonneg ((x % 2147483629 + 7919 * k + 101) * 48271) (show (2147483647 : Int) ≠ 0 by decide)
  have m1 := Int.emod_lt_of_pos ((x % 2147483629 + 7919 * k + 101) * 48271) (show (0 : Int) < 2147483647 by decide)
  dsimp only
  generalize (x % 2147483629 + 7919 * k + 101) * 48271 % 2147483647 = n1 at m0 m1 ⊢
  refine ⟨_, rfl, _, rfl, _, _, rfl, rfl, .inl ⟨by omega, by omega⟩, _, _, rfl, rfl, (by show (0 : Int) < _; decide), ?_⟩
  have m2 := Int.emod_nonneg (n1 * n1) (show (2147483629 : Int) ≠ 0 by decide)
  have m3 := Int.emod_lt_of_pos (n1 * n1) (show (0 : Int) < 2147483629 by decide)
  dsimp only
  generalize n1 * n1 % 2147483629 = n2 at m2 m3 ⊢
  refine ⟨_, rfl, _, rfl, _, _, rfl, rfl, _, _, rfl, rfl, .inl ⟨by omega, by omega⟩, _, _, rfl, rfl, (by show (0 : Int) < _; decide), ?_⟩
  exact q _ (Int.emod_nonneg _ (by decide))
theorem sc_law_draw : FnScope ["_law_cell_here", "_law_k"] ["_law_cell_here", "_law_k"] (defScope s_law_draw) := ⟨rfl, rfl, rfl, by decide +kernel, rfl, by decide +kernel, by decide +kernel⟩
theorem ok_law_draw (D : Dfn K mg "_law_draw" s_law_draw ["_law_cell_here", "_law_k"] f fd) (T : Txt K mg) (C_law_mix : Cal P w K mg base "_law_mix" 1 ["_law_cell_here", "_law_k"] spMix) : Cal P w K mg base "_law_draw" 2 ["_law_cell_here", "_law_k"] spDraw := by
  refine D.cal (D.F.ok sc_law_draw (fun vs H Q E h => ?_) (fun cdv A outer s H vs Q E hr h => ?_))
  · obtain ⟨x, y, rfl, _⟩ := h
    rfl
  obtain ⟨x, k, rfl, k0, q⟩ := h
  refine ⟨_, (pss_mid (ps_if (PW.pt (pw_and (pt_cmpR op_ge (pv 0) (pe_op op_pow pe_int pe_int) (nomark _)) (pw_and1 (pt_cmpR op_gt (pe_op op_shr (pv 0) (pe_op op_mul pe_int (pv 1))) pe_int (nomark _))))) (pss_one (ps_ret (pe_op op_mod (pe_op op_shr (pv 0) (pe_op op_mul pe_int (pv 1))) (pe_op op_pow pe_int pe_int)))) pss_nil)
      (pss_one (ps_ret (pe_cal C_law_mix (hr.mono (by decide)) rfl (pa_cons (pv 0) (pa_cons (pe_op op_add pe_int (pv 1)) pa_nil)))))), ?_⟩
  refine ⟨fun σ' H' => σ' = [some (.int x), some (.int k)] ∧ H' = H, ?_, ?_⟩
  · refine ⟨_, rfl, _, _, rfl, rfl, ⟨by decide, by decide, by decide⟩, _, _, rfl, rfl, _, rfl, ?_⟩
    refine ite2 (fun c => ?_) (fun c => ?_)
    · refine ⟨_, rfl, _, rfl, _, _, rfl, rfl, .inl ⟨by decide, by decide⟩, _, _, rfl, rfl, by show 0 ≤ 40 * k; omega, _, _, rfl, rfl, _, rfl, ?_⟩
      refine ite2 (fun c2 => ?_) (fun c2 => ?_)
      · refine ⟨_, rfl, _, rfl, _, _, rfl, rfl, .inl ⟨by decide, by decide⟩, _, _, rfl, rfl, by show 0 ≤ 40 * k; omega, _, _, rfl, rfl, ⟨by decide, by decide, by decide⟩, _, _, rfl, rfl, (by show (0 : Int) < _; decide), ?_⟩
        rw [pow40]
        exact q _ (Int.emod_nonneg _ (by decide))
      · exact ⟨rfl, rfl⟩
    · exact ⟨rfl, rfl⟩
  · rintro σ' H' ⟨rfl, rfl⟩
    exact ⟨_, rfl, _, rfl, _, _, rfl, rfl, x, _, rfl, fun r r0 => q r r0⟩
theorem sc_law_weight : FnScope ["_law_number"] ["_law_number"] (defScope s_law_weight) := ⟨rfl, rfl, rfl, by decide +kernel, rfl, by decide +kernel, by decide +kernel⟩
theorem ok_law_weight (D : Dfn K mg "_law_weight" s_law_weight ["_law_number"] f fd) (T : Txt K mg) : Cal P w K mg base "_law_weight" 1 ["_law_number"] spWeightN := by
  refine D.cal (D.F.ok sc_law_weight (fun vs H Q E h => ?_) (fun cdv A outer s H vs Q E hr h => ?_))
  · obtain ⟨n, rfl, _⟩ := h
    rfl
  obtain ⟨n, rfl, n0, q⟩ := h
  refine ⟨_, (pss_cons (ps_if (pt_cmpR op_eq (pe_op op_mod (pv 0) pe_int) pe_int (nomark _)) (pss_one (ps_ret (pe_tupS (pa_cons (pe_op op_mod (pe_op op_fdiv (pv 0) pe_int) pe_int) (pa_cons (pe_op op_add pe_int (pe_op op_mod (pe_op op_fdiv (pv 0) pe_int) pe_int)) pa_nil))))) pss_nil)
      (pss_one (ps_ret (pe_tupS (pa_cons (pe_op op_mod (pe_op op_fdiv (pv 0) pe_int) pe_int) (pa_cons (pe_op op_add pe_int (pe_op op_mod (pe_op op_fdiv (pv 0) pe_int) pe_int)) pa_nil)))))), ?_⟩
  refine ⟨_, rfl, _, _, rfl, rfl, (by show (0 : Int) < _; decide), rfl, _, rfl, ?_⟩
  refine ite2 (fun c => ?_) (fun c => ?_)
  · refine ⟨_, rfl, _, _, rfl, rfl, ⟨by decide, by decide⟩, _, _, rfl, rfl, (by show (0 : Int) < _; decide), _, rfl, _, _, rfl, rfl, ⟨by decide, by decide⟩, _, _, rfl, rfl, (by show (0 : Int) < _; decide), _, _, rfl, rfl, sz 2 (by decide), fun p H1 s1 n1 h1 => ?_⟩
    exact q p _ _ H1 s1 ⟨h1, by omega, by omega, by omega, by omega⟩
  · refine ⟨_, rfl, _, _, rfl, rfl, ⟨by decide, by decide⟩, _, _, rfl, rfl, (by show (0 : Int) < _; decide), _, rfl, _, _, rfl, rfl, ⟨by decide, by decide⟩, _, _, rfl, rfl, (by show (0 : Int) < _; decide), _, _, rfl, rfl, sz 2 (by decide), fun p H1 s1 n1 h1 => ?_⟩
    exact q p _ _ H1 s1 ⟨h1, by omega, by omega, by omega, by omega⟩
theorem sc_law_begin : FnScope ["_law_script", "_law_number"] ["_law_script"] (defScope s_law_begin) := ⟨rfl, rfl, rfl, by decide +kernel, rfl, by decide +kernel, by decide +kernel⟩
theorem ok_law_begin (D : Dfn K mg "_law_begin" s_law_begin ["_law_script"] f fd) (T : Txt K mg) (C_law_cell : Cal P w K mg base "_law_cell" 1 ["_law_script", "_law_k"] (spCell K)) (C_law_draw : Cal P w K mg base "_law_draw" 2 ["_law_cell_here", "_law_k"] spDraw) : Cal P w K mg base "_law_begin" 3 ["_law_script"] (spBeginS K) := by
  refine D.cal (D.F.ok sc_law_begin (fun vs H Q E h => ?_) (fun cdv A outer s H vs Q E hr h => ?_))
  · obtain ⟨a, ns, rfl, _⟩ := h
    rfl
  obtain ⟨a, ns, rfl, hS, q⟩ := h
  refine ⟨_, (pss_cons (ps_set (i := 1) sc_law_begin.nd rfl (Or.inl rfl) (pe_cal C_law_draw (hr.mono (by decide)) rfl (pa_cons (pe_cal C_law_cell (hr.mono (by decide)) rfl (pa_cons (pv 0) (pa_cons pe_int pa_nil))) (pa_cons pe_int pa_nil))))
      (pss_one (ps_ret (pe_ix ix_list (pe_lstS (pai (pai_cons (pe_op op_mod (pe_op op_fdiv (pv 1) pe_int) pe_int) (pai_cons (pe_op op_mod (pe_op op_fdiv (pv 1) pe_int) pe_int) (pai_cons pe_int (pai_cons (pe_op op_mod (pe_op op_fdiv (pv 1) pe_int) pe_int) pai_nil)))))) (pe_op op_mod (pv 1) pe_int) (fun _ _ => rfl))))), ?_⟩
  refine ⟨_, rfl, a, ns, _, rfl, hS, by decide, fun cell => ⟨cell, _, rfl, by decide, fun n n0 => ?_⟩⟩
  refine ⟨_, rfl, _, _, rfl, rfl, ⟨by decide, by decide⟩, _, _, rfl, rfl, (by show (0 : Int) < _; decide), _, rfl, _, _, rfl, rfl, ⟨by decide, by decide⟩, _, _, rfl, rfl, (by show (0 : Int) < _; decide), _, rfl, _, _, rfl, rfl, ⟨by decide, by decide⟩, _, _, rfl, rfl, (by show (0 : Int) < _; decide), sz 4 (by decide), fun l1 H1 s1 n1 h1 => ?_⟩
  refine ⟨_, rfl, _, _, rfl, rfl, (by show (0 : Int) < _; decide), ?_⟩
  obtain ⟨v, ev, hv⟩ := at4 (n / 4 % 12) (n / 4 % 12) 0 (n / 4 % 501) n
  exact ⟨l1, _, _, _, rfl, rfl, SqL.of h1, ev, q v H1 s1 (by omega) (by omega)⟩
theorem sc_law_chore : FnScope ["_law_cell_here", "_law_number", "_law_begin_here", "_law_most", "_law_came", "_law_left"] ["_law_cell_here", "_law_number", "_law_begin_here", "_law_most"] (defScope s_law_chore) := ⟨rfl, rfl, rfl, by decide +kernel, rfl, by decide +kernel, by decide +kernel⟩
theorem ok_law_chore (D : Dfn K mg "_law_chore" s_law_chore ["_law_cell_here", "_law_number", "_law_begin_here", "_law_most"] f fd) (T : Txt K mg) (C_law_draw : Cal P w K mg base "_law_draw" 2 ["_law_cell_here", "_law_k"] spDraw) (C_law_weight : Cal P w K mg base "_law_weight" 1 ["_law_number"] spWeightN) : Cal P w K mg base "_law_chore" 3 ["_law_cell_here", "_law_number", "_law_begin_here", "_law_most"] (spChore K) := by
  refine D.cal (D.F.ok sc_law_chore (fun vs H Q E h => ?_) (fun cdv A outer s H vs Q E hr h => ?_))
  · obtain ⟨x, n, b, m, rfl, _⟩ := h
    rfl
  obtain ⟨x, n, b, m, rfl, n0, b0, b1, m0, m1, q⟩ := h
  refine ⟨_, (pss_cons (ps_set (i := 4) sc_law_chore.nd rfl (Or.inl rfl) (pe_callB (call_max2 rfl) rfl T.b_max bt_max (pa_cons pe_int (pa_cons (pe_op op_add (pe_op op_sub (pv 2) pe_int) (pe_op op_mod (pe_cal C_law_draw (hr.mono (by decide)) rfl (pa_cons (pv 0) (pa_cons pe_int pa_nil))) pe_int)) pa_nil))))
      (pss_mid (ps_if (PW.pt (pw_and (pt_cmpR op_eq (pv 3) pe_int (nomark _)) (pw_and1 (pt_cmpR op_eq (pe_op op_mod (pe_op op_fdiv (pe_cal C_law_draw (hr.mono (by decide)) rfl (pa_cons (pv 0) (pa_cons pe_int pa_nil))) pe_int) pe_int) pe_int (nomark _))))) (pss_one (ps_set (i := 4) sc_law_chore.nd rfl (Or.inl rfl) (pe_op op_add (pv 2) (pe_op op_mod (pe_op op_fdiv (pe_cal C_law_draw (hr.mono (by decide)) rfl (pa_cons (pv 0) (pa_cons pe_int pa_nil))) pe_int) pe_int)))) pss_nil)
      (pss_cons (ps_set (i := 5) sc_law_chore.nd rfl (Or.inl rfl) (pe_op op_mod (pe_cal C_law_draw (hr.mono (by decide)) rfl (pa_cons (pv 0) (pa_cons pe_int pa_nil))) (pe_op op_add (pv 3) pe_int)))
      (pss_one (ps_ret (pe_tupS (pa_cons (pe_tupS (pai (pai_cons (pv 1) (pai_cons (pe_cal C_law_weight (hr.mono (by decide)) rfl (pa_cons (pe_cal C_law_draw (hr.mono (by decide)) rfl (pa_cons (pv 0) (pa_cons pe_int pa_nil))) pa_nil)) (pai_cons (pe_cal C_law_weight (hr.mono (by decide)) rfl (pa_cons (pe_cal C_law_draw (hr.mono (by decide)) rfl (pa_cons (pv 0) (pa_cons pe_int pa_nil))) pa_nil)) (pai_cons (pv 4) pai_nil)))))) (pa_cons (pv 5) pa_nil)))))))), ?_⟩
  refine ⟨_, rfl, _, _, rfl, rfl, _, rfl, x, _, rfl, by decide, fun r r0 => ⟨_, _, rfl, rfl, (by show (0 : Int) < _; decide), _, _, rfl, rfl, _, _, rfl, ?_⟩⟩
  refine ⟨fun σ' H' => ∃ came : Int, σ' = [some (.int x), some (.int n), some (.int b), some (.int m), some (.int came), none] ∧ H' = H ∧ 0 ≤ came ∧ came ≤ 1000, ?_, ?_⟩
  · refine ⟨_, rfl, rfl, _, rfl, ?_⟩
    have keep : ∃ came : Int, [some (.int x), some (.int n), some (.int b), some (.int m), some (V.int (if b - 9 + r % 18 > 0 then b - 9 + r % 18 else 0)), none] = [some (.int x), some (.int n), some (.int b), some (.int m), some (.int came), none] ∧ H = H ∧ 0 ≤ came ∧ came ≤ 1000 := ⟨_, rfl, rfl, by split <;> omega, by split <;> omega⟩
    refine ite2 (fun c => ?_) (fun c => keep)
    refine ⟨_, rfl, x, _, rfl, by decide, fun r2 r20 => ⟨_, _, rfl, rfl, ⟨by decide, by decide⟩, _, _, rfl, rfl, (by show (0 : Int) < _; decide), rfl, _, rfl, ?_⟩⟩
    refine ite2 (fun c => ?_) (fun c => keep)
    refine ⟨_, rfl, _, rfl, x, _, rfl, by decide, fun r3 r30 => ⟨_, _, rfl, rfl, ⟨by decide, by decide⟩, _, _, rfl, rfl, (by show (0 : Int) < _; decide), _, _, rfl, rfl, _, rfl, rfl, by omega, by omega⟩⟩
  · rintro σ' H' ⟨came, rfl, rfl, c0, c1⟩
    refine ⟨_, rfl, x, _, rfl, by decide, fun r4 r40 => ⟨_, rfl, _, _, rfl, rfl, _, _, rfl, rfl, by show 0 < m + 1; omega, ?_⟩⟩
    have l0 := Int.emod_nonneg r4 (show m + 1 ≠ 0 by omega)
    have l1 := Int.emod_lt_of_pos r4 (show 0 < m + 1 by omega)
    refine ⟨_, rfl, _, rfl, x, _, rfl, by decide, fun r5 r50 => ⟨r5, rfl, r50, fun pw t d H1 s1 w1 => ?_⟩⟩
    refine ⟨_, rfl, x, _, rfl, by decide, fun r6 r60 => ⟨r6, rfl, r60, fun pz t2 d2 H2 s2 w2 => ?_⟩⟩
    refine ⟨_, rfl, sz 4 (by decide), fun pc H3 s3 n3 h3 => ⟨_, rfl, sz 2 (by decide), fun p H4 s4 n4 h4 => ?_⟩⟩
    have w1' := (w1.same s2).same (s3.trans s4)
    have w2' := w2.same (s3.trans s4)
    exact q p (⟨n, t, d, t2, d2, came⟩, r4 % (m + 1)) H4 (s1.trans (s2.trans (s3.trans s4))) ⟨pc, h4, ⟨pw, pz, s4 _ _ h3, w1'.at_, w2'.at_⟩⟩ ⟨⟨n0, w1'.t0, w1'.t1, w1'.b0, w1'.b1, w2'.t0, w2'.t1, w2'.b0, w2'.b1, c0, by show came ≤ _; omega⟩, l0, by show r4 % (m + 1) ≤ 12; omega, c1⟩ rfl
theorem sc_law_chores : FnScope ["_law_script", "_law_start", "_law_begin_here", "_law_number", "_law_many", "_law_most", "_law_first", "_law_wide", "_law_chores_here", "_law_k"] ["_law_script", "_law_start", "_law_begin_here"] (defScope s_law_chores) := ⟨rfl, rfl, rfl, by decide +kernel, rfl, by decide +kernel, by decide +kernel⟩
theorem ok_law_chores (D : Dfn K mg "_law_chores" s_law_chores ["_law_script", "_law_start", "_law_begin_here"] f fd) (T : Txt K mg) (C_law_cell : Cal P w K mg base "_law_cell" 1 ["_law_script", "_law_k"] (spCell K)) (C_law_draw : Cal P w K mg base "_law_draw" 2 ["_law_cell_here", "_law_k"] spDraw) (C_law_chore : Cal P w K mg base "_law_chore" 3 ["_law_cell_here", "_law_number", "_law_begin_here", "_law_most"] (spChore K)) : Cal P w K mg base "_law_chores" 4 ["_law_script", "_law_start", "_law_begin_here"] (spChores K) := by
  refine D.cal (D.F.ok sc_law_chores (fun vs H Q E h => ?_) (fun cdv A outer s H vs Q E hr h => ?_))
  · obtain ⟨a, ns, k, b, rfl, _⟩ := h
    rfl
  obtain ⟨a, ns, k, b, rfl, hS, k0, b0, b1, q⟩ := h
  refine ⟨_, (pss_cons (ps_set (i := 3) sc_law_chores.nd rfl (Or.inl rfl) (pe_cal C_law_draw (hr.mono (by decide)) rfl (pa_cons (pe_cal C_law_cell (hr.mono (by decide)) rfl (pa_cons (pv 0) (pa_cons pe_int pa_nil))) (pa_cons pe_int pa_nil))))
      (pss_cons (ps_set (i := 4) sc_law_chores.nd rfl (Or.inl rfl) (pe_ix ix_list (pe_lstS (pa_cons (pe_op op_mod (pe_op op_fdiv (pv 3) pe_int) pe_int) (pa_cons (pe_op op_add pe_int (pe_op op_mod (pe_op op_fdiv (pv 3) pe_int) pe_int)) pa_nil))) (pe_callTy call_int1 rfl T.b_int bt_int (pa_cons (pe_cmpR op_gt (pe_op op_mod (pv 3) pe_int) pe_int (nomark _)) pa_nil)) (fun _ _ => rfl)))
      (pss_mid (ps_if (pt_cmpR op_eq (pe_op op_mod (pe_op op_fdiv (pv 3) pe_int) pe_int) pe_int (nomark _)) (pss_one (ps_set (i := 4) sc_law_chores.nd rfl (Or.inl rfl) pe_int)) pss_nil)
      (pss_cons (ps_set (i := 5) sc_law_chores.nd rfl (Or.inl rfl) (pe_ix ix_list (pe_lstS (pa_cons pe_int (pa_cons pe_int pa_nil))) (pe_callTy call_int1 rfl T.b_int bt_int (pa_cons (pe_cmpR op_gt (pv 4) pe_int (nomark _)) pa_nil)) (fun _ _ => rfl)))
      (pss_cons (ps_set (i := 6) sc_law_chores.nd rfl (Or.inl rfl) (pe_op op_mod (pe_op op_fdiv (pv 3) pe_int) pe_int))
      (pss_cons (ps_set (i := 7) sc_law_chores.nd rfl (Or.inl rfl) (pe_ix ix_list (pe_lstS (pa_cons pe_int (pa_cons pe_int (pa_cons pe_int pa_nil)))) (pe_op op_mod (pe_op op_fdiv (pv 3) pe_int) pe_int) (fun _ _ => rfl)))
      (pss_cons (ps_set (i := 8) sc_law_chores.nd rfl (Or.inl rfl) (pe_lstS pa_nil))
      (pss_cons (ps_for PassesOwn.never rfl (pi_range1 rfl T.b_range (pa_cons (pv 4) pa_nil)) (pg_name (i := 9) sc_law_chores.nd rfl (Or.inl rfl)) (pss_one (ps_expr (pe_bm PySem.F.plainAttrs_list PySem.F.slot_list_append PySem.F.type_list_append mt_appendS (pv 8) (pa_cons (pe_cal C_law_chore (hr.mono (by decide)) rfl (pai (pai_cons (pe_cal C_law_cell (hr.mono (by decide)) rfl (pa_cons (pv 0) (pa_cons (pe_op op_add (pv 1) (pv 9)) pa_nil))) (pai_cons (pe_op op_mul (pe_op op_mod (pe_op op_add (pe_op op_mul pe_int (pv 9)) (pv 6)) pe_int) (pv 7)) (pai_cons (pv 2) (pai_cons (pv 5) pai_nil)))))) pa_nil)))))
      (pss_one (ps_ret (pv 8))))))))))), ?_⟩
  refine ⟨_, rfl, a, ns, _, rfl, hS, by decide, fun cell => ⟨cell, _, rfl, by decide, fun n n0 => ?_⟩⟩
  refine ⟨_, rfl, _, _, rfl, rfl, ⟨by decide, by decide⟩, _, _, rfl, rfl, (by show (0 : Int) < _; decide), _, rfl, _, _, rfl, rfl, ⟨by decide, by decide⟩, _, _, rfl, rfl, (by show (0 : Int) < _; decide), _, _, rfl, rfl, sz 2 (by decide), fun l1 H1 s1 n1 h1 => ?_⟩
  refine ⟨_, rfl, _, _, rfl, rfl, (by show (0 : Int) < _; decide), _, _, rfl, rfl, .inr ⟨_, rfl, ?_⟩⟩
  have hm : ∃ many : Int, atI [V.int (n / 8 % 9), V.int (2 + n / 8 % 6)] (if decide ((1 : Int) < n % 8) = true then 1 else 0) = some (.int many) ∧ 0 ≤ many ∧ many ≤ 40 := by
    cases decide ((1 : Int) < n % 8) with
    | false => exact ⟨_, rfl, by omega, by omega⟩
    | true => exact ⟨_, rfl, by omega, by omega⟩
  obtain ⟨many, em, m0, m1⟩ := hm
  refine ⟨l1, _, _, _, rfl, rfl, SqL.of h1, em, ?_⟩
  refine ⟨fun σ' H' => ∃ many : Int, σ' = [some (.ref a), some (.int k), some (.int b), some (.int n), some (.int many), none, none, none, none, none] ∧ H' = H1 ∧ 0 ≤ many ∧ many ≤ 40, ?_, ?_⟩
  · refine ⟨_, rfl, _, _, rfl, rfl, ⟨by decide, by decide⟩, _, _, rfl, rfl, (by show (0 : Int) < _; decide), rfl, _, rfl, ?_⟩
    exact ite2 (fun c => ⟨_, rfl, rfl, by decide, by decide⟩) (fun c => ⟨_, rfl, rfl, m0, m1⟩)
  · clear em m0 m1
    rintro σ' H' ⟨many, rfl, rfl, m0, m1⟩
    refine ⟨sz 2 (by decide), fun l2 H2 s2 n2 h2 => ⟨_, rfl, _, _, rfl, rfl, .inr ⟨_, rfl, ?_⟩⟩⟩
    have hq : ∃ most : Int, atI [V.int 12, V.int 3] (if decide ((8 : Int) < many) = true then 1 else 0) = some (.int most) ∧ 0 ≤ most ∧ most ≤ 12 := by
      cases decide ((8 : Int) < many) with
      | false => exact ⟨_, rfl, by decide, by decide⟩
      | true => exact ⟨_, rfl, by decide, by decide⟩
    obtain ⟨most, eq, q0, q1⟩ := hq
    refine ⟨l2, _, _, _, rfl, rfl, SqL.of h2, eq, ?_⟩
    refine ⟨_, rfl, _, _, rfl, rfl, ⟨by decide, by decide⟩, _, _, rfl, rfl, (by show (0 : Int) < _; decide), ?_⟩
    have f0 : 0 ≤ n / 864 % 41 := by omega
    dsimp only
    generalize n / 864 % 41 = fi at f0 ⊢
    refine ⟨sz 3 (by decide), fun l3 H3 s3 n3 h3 => ⟨_, rfl, _, _, rfl, rfl, ⟨by decide, by decide⟩, _, _, rfl, rfl, (by show (0 : Int) < _; decide), ?_⟩⟩
    obtain ⟨v3, e3, z3⟩ := at_3 (.int 1) (.int 1) (.int 1000003) (r := n / 35424 % 3) (by omega) (by omega)
    have z3 : ∃ wide : Int, v3 = .int wide ∧ 0 < wide ∧ wide ≤ 1000003 := by
      rcases z3 with rfl | rfl | rfl
      · exact ⟨_, rfl, by decide, by decide⟩
      · exact ⟨_, rfl, by decide, by decide⟩
      · exact ⟨_, rfl, by decide, by decide⟩
    obtain ⟨wide, rfl, w0, w1⟩ := z3
    refine ⟨l3, _, _, _, rfl, rfl, SqL.of h3, e3, ?_⟩
    refine ⟨sz 0 (by decide), fun lc H4 s4 n4 h4 => ?_⟩
    have s14 := s1.trans (s2.trans (s3.trans s4))
    have nlc : H lc = none := Same.free (s1.trans (s2.trans s3)) n4
    refine ⟨_, rfl, _, rfl, by omega, by omega, ?_⟩
    refine for_range (fun i σ H5 => ∃ (v9 : Option V) (xs : List (Addr × Cl × Int)), σ = [some (.ref a), some (.int k), some (.int b), some (.int n), some (.int many), some (.int most), some (.int fi), some (.int wide), some (.ref lc), v9] ∧ Same H H5 ∧ IsChs K H5 lc xs ∧ (∀ q, q ∈ xs → ChOk 1000 q.2) ∧ xs.map (·.2.1.n) = (List.range i).map fun (j : Nat) => (17 * (j : Int) + fi) % 41 * wide)
      ⟨_, [], rfl, s14, ⟨h4, fun q hq => by simp at hq⟩, fun q hq => by simp at hq, rfl⟩ ?_ ?_
    · rintro i σ H5 hi ⟨v9, xs, rfl, s5, hx, ox, en⟩
      have xl : xs.length = i := by
        have := congrArg List.length en
        simpa using this
      refine ⟨_, rfl, .inl ⟨rfl, _, SqL.of hx.at_⟩, _, rfl, _, rfl, _, rfl, _, _, rfl, rfl, a, ns, _, rfl, s5.seq hS, by show 0 ≤ k + (0 + (i : Int)); omega, fun cell2 => ?_⟩
      have wn : 0 ≤ (17 * (0 + (i : Int)) + fi) % 41 * wide := Int.mul_nonneg (by omega) (by omega)
      refine ⟨_, rfl, _, _, rfl, rfl, .inl ⟨by decide, by decide⟩, _, rfl, _, _, rfl, rfl, _, _, rfl, rfl, (by show (0 : Int) < _; decide), _, rfl, _, _, rfl, rfl, .inr ⟨by omega, by omega⟩, _, rfl, _, rfl, cell2, _, b, most, rfl, wn, b0, b1, q0, q1, fun p y H6 s6 hy oy ny => ?_⟩
      have hx6 := hx.same s6
      refine ⟨lc, _, _, rfl, rfl, hx6.at_, small1000 (by rw [List.length_map]; omega), fun H7 k7 h7 => ?_⟩
      refine ⟨_, xs ++ [(p, y)], rfl, (s5.trans s6).but nlc k7, ⟨by rw [h7, List.map_append]; rfl, fun q' hq => ?_⟩, fun q' hq => ?_, ?_⟩
      · rcases List.mem_append.mp hq with hq | hq
        · exact (hx6.ch q' hq).but k7 hx6.at_
        · rw [List.mem_singleton.mp hq]
          exact hy.but k7 hx6.at_
      · rcases List.mem_append.mp hq with hq | hq
        · exact ox q' hq
        · rw [List.mem_singleton.mp hq]
          exact oy
      · rw [List.map_append, en, List.range_succ, List.map_append]
        congr 1
        show [y.1.n] = [(17 * (i : Int) + fi) % 41 * wide]
        rw [ny, Int.zero_add]
    · rintro σ H5 ⟨v9, xs, rfl, s5, hx, ox, en⟩
      have xl : xs.length = many.toNat := by
        have := congrArg List.length en
        simpa using this
      refine ⟨_, rfl, q lc xs H5 s5 nlc hx (by omega) ox ?_⟩
      rw [en, List.nodup_iff_pairwise_ne, List.pairwise_map]
      refine List.Pairwise.imp_of_mem (fun {i j} hi hj ne z => ne ?_) (List.nodup_iff_pairwise_ne.mp List.nodup_range)
      have hi := List.mem_range.mp hi
      have hj := List.mem_range.mp hj
      have := Int.eq_of_mul_eq_mul_right (by omega) z
      omega
theorem sc_law_weighs : FnScope ["_law_claim", "_law_turn", "_law_number", "_law_weight_here", "_law_speed", "_law_came"] ["_law_claim", "_law_turn"] (defScope s_law_weighs) := ⟨rfl, rfl, rfl, by decide +kernel, rfl, by decide +kernel, by decide +kernel⟩
theorem ok_law_weighs (D : Dfn K mg "_law_weighs" s_law_weighs ["_law_claim", "_law_turn"] f fd) (T : Txt K mg) : Cal P w K mg base "_law_weighs" 1 ["_law_claim", "_law_turn"] (spWeighs K) := by
  refine D.cal (D.F.ok sc_law_weighs (fun vs H Q E h => ?_) (fun cdv A outer s H vs Q E hr h => ?_))
  · obtain ⟨p, c, t, rfl, _⟩ := h
    rfl
  obtain ⟨p, c, t, rfl, hc, ok, q⟩ := h
  refine ⟨_, (pss_cons (ps_asg (pv 0) (pg_tup rfl (pgs_cons (pg_name (i := 2) sc_law_weighs.nd rfl (Or.inl rfl)) (pgs_cons (pg_name (i := 3) sc_law_weighs.nd rfl (Or.inl rfl)) (pgs_cons (pg_name (i := 4) sc_law_weighs.nd rfl (Or.inl rfl)) (pgs_cons (pg_name (i := 5) sc_law_weighs.nd rfl (Or.inl rfl)) pgs_nil))))))
      (pss_one (ps_ret (pe_tupS (pa_cons (pe_op op_add (pe_op op_mul (pe_ix ix_tup (pv 3) pe_int (fun _ _ => rfl)) (pe_ix ix_tup (pv 4) pe_int (fun _ _ => rfl))) (pe_op op_mul (pe_op op_mul (pe_ix ix_tup (pv 4) pe_int (fun _ _ => rfl)) (pe_op op_sub (pv 1) (pv 5))) (pe_ix ix_tup (pv 3) pe_int (fun _ _ => rfl)))) (pa_cons (pe_op op_mul (pe_ix ix_tup (pv 3) pe_int (fun _ _ => rfl)) (pe_ix ix_tup (pv 4) pe_int (fun _ _ => rfl))) pa_nil)))))), ?_⟩
  obtain ⟨pw, ps, e1, e2, e3⟩ := id hc.ex
  have hw1 : SqT K H pw [.int c.wt, .int c.wb] := SqT.of e2
  have hs1 : SqT K H ps [.int c.st, .int c.sb] := SqT.of e3
  have z1 := ok.w2
  have z2 := ok.w3
  have z3 := ok.s2
  have z4 := ok.s3
  have z5 := ok.s0
  have z6 := ok.s1
  refine ⟨_, rfl, p, _, rfl, SqT.of e1, rfl, _, _, rfl, _, _, rfl, _, _, rfl, _, _, rfl, rfl, ?_⟩
  refine ⟨_, rfl, pw, _, _, _, rfl, rfl, hw1, rfl, _, rfl, ps, _, _, _, rfl, rfl, hs1, rfl, _, _, rfl, rfl, .inr ⟨by omega, by omega⟩, ?_⟩
  refine ⟨_, rfl, ps, _, _, _, rfl, rfl, hs1, rfl, _, rfl, _, rfl, _, _, rfl, rfl, _, _, rfl, rfl, .inl ⟨by omega, by omega⟩, _, rfl, pw, _, _, _, rfl, rfl, hw1, rfl, _, _, rfl, rfl, .inr ⟨by omega, by omega⟩, _, _, rfl, rfl, ?_⟩
  refine ⟨_, rfl, pw, _, _, _, rfl, rfl, hw1, rfl, _, rfl, ps, _, _, _, rfl, rfl, hs1, rfl, _, _, rfl, rfl, .inr ⟨by omega, by omega⟩, sz 2 (by decide), fun r H1 s1 n1 h1 => ?_⟩
  have et : c.wt * c.sb + c.st * (t - c.came) * c.wb = wtop c t := by
    unfold wtop
    rw [Int.mul_comm c.st (t - c.came)]
  refine q r H1 s1 ?_
  rw [← et]
  exact h1
theorem sc_law_is_ahead : FnScope ["_law_one", "_law_other", "_law_turn", "_law_top", "_law_bottom", "_law_other_top", "_law_other_bottom", "_law_side"] ["_law_one", "_law_other", "_law_turn"] (defScope s_law_is_ahead) := ⟨rfl, rfl, rfl, by decide +kernel, rfl, by decide +kernel, by decide +kernel⟩
theorem ok_law_is_ahead (D : Dfn K mg "_law_is_ahead" s_law_is_ahead ["_law_one", "_law_other", "_law_turn"] f fd) (T : Txt K mg) (C_law_weighs : Cal P w K mg base "_law_weighs" 1 ["_law_claim", "_law_turn"] (spWeighs K)) : Cal P w K mg base "_law_is_ahead" 2 ["_law_one", "_law_other", "_law_turn"] (spLahead K) := by
  refine D.cal (D.F.ok sc_law_is_ahead (fun vs H Q E h => ?_) (fun cdv A outer s H vs Q E hr h => ?_))
  · obtain ⟨p, p2, c, d, t, rfl, _⟩ := h
    rfl
  obtain ⟨p, p2, c, d, t, rfl, hc, hd, oc, od, q⟩ := h
  refine ⟨_, (pss_cons (ps_asg (pe_cal C_law_weighs (hr.mono (by decide)) rfl (pa_cons (pv 0) (pa_cons (pv 2) pa_nil))) (pg_tup rfl (pgs_cons (pg_name (i := 3) sc_law_is_ahead.nd rfl (Or.inl rfl)) (pgs_cons (pg_name (i := 4) sc_law_is_ahead.nd rfl (Or.inl rfl)) pgs_nil))))
      (pss_cons (ps_asg (pe_cal C_law_weighs (hr.mono (by decide)) rfl (pa_cons (pv 1) (pa_cons (pv 2) pa_nil))) (pg_tup rfl (pgs_cons (pg_name (i := 5) sc_law_is_ahead.nd rfl (Or.inl rfl)) (pgs_cons (pg_name (i := 6) sc_law_is_ahead.nd rfl (Or.inl rfl)) pgs_nil))))
      (pss_cons (ps_set (i := 7) sc_law_is_ahead.nd rfl (Or.inl rfl) (pe_op op_sub (pe_op op_mul (pv 3) (pv 6)) (pe_op op_mul (pv 5) (pv 4))))
      (pss_cons (ps_if (pt_cmpR op_eq (pv 7) pe_int (nomark _)) (pss_one (ps_ret (pe_cmpR (op_ltT hr.units0) (pe_tupS (pa_cons (pe_ix ix_tup (pv 0) pe_int (fun _ _ => rfl)) (pa_cons (pe_ix ix_tup (pv 0) pe_int (fun _ _ => rfl)) pa_nil))) (pe_tupS (pa_cons (pe_ix ix_tup (pv 1) pe_int (fun _ _ => rfl)) (pa_cons (pe_ix ix_tup (pv 1) pe_int (fun _ _ => rfl)) pa_nil))) (nomark _)))) pss_nil)
      (pss_one (ps_ret (pe_cmpR op_gt (pv 7) pe_int (nomark _)))))))), ?_⟩
  refine ⟨_, rfl, _, rfl, p, c, t, rfl, hc, oc, fun r1 H1 s1 e1 => ⟨r1, _, rfl, SqT.of e1, rfl, _, _, rfl, _, _, rfl, rfl, ?_⟩⟩
  refine ⟨_, rfl, _, rfl, p2, d, t, rfl, hd.same s1, od, fun r2 H2 s2 e2 => ⟨r2, _, rfl, SqT.of e2, rfl, _, _, rfl, _, _, rfl, rfl, ?_⟩⟩
  have a1 := bot_pos oc
  have a2 := bot_pos od
  have a7 := bot_le oc
  have a8 := bot_le od
  have s12 : Same H H2 := s1.trans s2
  refine ⟨_, rfl, _, rfl, _, _, rfl, rfl, .inr ⟨by omega, by omega⟩, _, rfl, _, rfl, _, _, rfl, rfl, .inr ⟨by omega, by omega⟩, _, _, rfl, rfl, ?_⟩
  have Z := q
  unfold ahd gap at Z
  refine ⟨_, rfl, rfl, _, rfl, ?_⟩
  by_cases g : wtop c t * wbot d - wtop d t * wbot c = 0
  · rw [if_pos g] at Z
    refine iteD (congrArg V.int g) ?_
    obtain ⟨pw, ps, x1, _, _⟩ := (hc.same s12).ex
    obtain ⟨pw2, ps2, x2, _, _⟩ := (hd.same s12).ex
    refine ⟨_, rfl, p, _, _, _, rfl, rfl, SqT.of x1, rfl, _, rfl, p, _, _, _, rfl, rfl, SqT.of x1, rfl, sz 2 (by decide), fun l1 H3 s3 n3 h3 => ?_⟩
    refine ⟨_, rfl, p2, _, _, _, rfl, rfl, SqT.of (s3 _ _ x2), rfl, _, rfl, p2, _, _, _, rfl, rfl, SqT.of (s3 _ _ x2), rfl, sz 2 (by decide), fun l2 H4 s4 n4 h4 => ?_⟩
    refine ⟨l1, l2, [c.came, c.n], [d.came, d.n], rfl, rfl, SqT.of (s4 _ _ h3), SqT.of h4, ?_⟩
    rw [lex_tie]
    exact Z H4 (s12.trans (s3.trans s4))
  · rw [if_neg g] at Z
    refine iteDn (fun z => g (V.int.inj z)) ?_
    exact ⟨_, rfl, _, _, rfl, rfl, Z H2 s12⟩
theorem knows_put {L : List (Int × Int)} {n m v : Int} (v0 : 0 ≤ v) (h : m ≠ n → Knows L m) : Knows (putI L n v) m := by
  unfold Knows
  rw [valI_put]
  by_cases e : m = n
  · rw [if_pos e]
    exact ⟨v, rfl, v0⟩
  · rw [if_neg e]
    exact h e
def spWorks (K : PySem.W.Frag) : Sp := fun vs H Q _ => ∃ (a l : Addr) (ns : List Int) (xs : List (Addr × Cl × Int)), vs = [.ref a, .ref l] ∧ SqL K H a (ns.map V.int) ∧ ChIn K H l xs ∧ ∀ d L H', Same H H' → H d = none → H' d = some (.dK (dI L)) → (∀ k, k ∈ xs → Knows L k.2.1.n) → Q (.ref d) H'
theorem sc_law_works : FnScope ["_law_script", "_law_chores_here", "_law_cell_here", "_law_works_here", "_law_k", "_law_claim", "_law_left", "_law_number"] ["_law_script", "_law_chores_here"] (defScope s_law_works) := ⟨rfl, rfl, rfl, by decide +kernel, rfl, by decide +kernel, by decide +kernel⟩
theorem ok_law_works (D : Dfn K mg "_law_works" s_law_works ["_law_script", "_law_chores_here"] f fd) (T : Txt K mg) (C_law_cell : Cal P w K mg base "_law_cell" 1 ["_law_script", "_law_k"] (spCell K)) (C_law_mix : Cal P w K mg base "_law_mix" 1 ["_law_cell_here", "_law_k"] spMix) (C_law_draw : Cal P w K mg base "_law_draw" 2 ["_law_cell_here", "_law_k"] spDraw) : Cal P w K mg base "_law_works" 3 ["_law_script", "_law_chores_here"] (spWorks K) := by
  refine D.cal (D.F.ok sc_law_works (fun vs H Q E h => ?_) (fun cdv A outer s H vs Q E hr h => ?_))
  · obtain ⟨a, l, ns, xs, rfl, _⟩ := h
    rfl
  obtain ⟨a, l, ns, xs, rfl, hS, hI, q⟩ := h
  refine ⟨_, (pss_cons (ps_set (i := 2) sc_law_works.nd rfl (Or.inl rfl) (pe_cal C_law_cell (hr.mono (by decide)) rfl (pa_cons (pv 0) (pa_cons pe_int pa_nil))))
      (pss_cons (ps_set (i := 3) sc_law_works.nd rfl (Or.inl rfl) pe_dnewS)
      (pss_cons (ps_for PassesOwn.never rfl (pi_enum rfl T.b_enumerate (pa_cons (pv 1) pa_nil)) (pg_tup rfl (pgs_cons (pg_name (i := 4) sc_law_works.nd rfl (Or.inl rfl)) (pgs_cons (pg_tup rfl (pgs_cons (pg_name (i := 5) sc_law_works.nd rfl (Or.inl rfl)) (pgs_cons (pg_name (i := 6) sc_law_works.nd rfl (Or.inl rfl)) pgs_nil))) pgs_nil))) (pss_cons (ps_set (i := 7) sc_law_works.nd rfl (Or.inl rfl) (pe_cal C_law_mix (hr.mono (by decide)) rfl (pa_cons (pv 2) (pa_cons (pe_op op_add pe_int (pv 4)) pa_nil))))
      (pss_cons (ps_dput hr.units1 (pv 3) (pe_ix ix_tup (pv 5) pe_int (fun _ _ => rfl)) (pv 6) rfl)
      (pss_one (ps_if (pt_cmpR op_eq (pe_op op_mod (pe_cal C_law_draw (hr.mono (by decide)) rfl (pa_cons (pv 2) (pa_cons pe_int pa_nil))) pe_int) pe_int (nomark _)) (pss_one (ps_dput hr.units1 (pv 3) (pe_ix ix_tup (pv 5) pe_int (fun _ _ => rfl)) (pe_ix ix_list (pe_lstS (pai (pai_cons (pe_op op_mod (pe_op op_fdiv (pv 7) pe_int) (pe_op op_add (pv 6) pe_int)) (pai_cons (pv 6) (pai_cons (pe_op op_add (pv 6) pe_int) (pai_cons (pe_op op_mod (pe_op op_fdiv (pv 7) pe_int) pe_int) pai_nil)))))) (pe_op op_mod (pv 7) pe_int) (fun _ _ => rfl)) rfl)) pss_nil)))))
      (pss_one (ps_ret (pv 3)))))), ?_⟩
  refine ⟨_, rfl, a, ns, _, rfl, hS, by decide, fun cell => ?_⟩
  refine fun d H1 s1 nd hd => ?_
  have ml : (xs.map fun q => V.ref q.1).length = xs.length := List.length_map _
  refine ⟨_, rfl, l, rfl, ⟨_, SqL.of (hI.same s1).chs.at_⟩, ?_⟩
  refine for_enum (K := K) (a := l) (xs := xs.map fun q => V.ref q.1) (fun i σ H' => ∃ (L : List (Int × Int)) (v4 v5 v6 v7 : Option V), σ = [some (.ref a), some (.ref l), some (.int cell), some (.ref d), v4, v5, v6, v7] ∧ Same H H' ∧ H' d = some (.dK (dI L)) ∧ L.length ≤ i * 2 ∧ ∀ (j : Nat) k, j < i → xs[j]? = some k → Knows L k.2.1.n)
    ⟨[], _, _, _, _, rfl, s1, hd, by simp, fun j k hj => by omega⟩ (fun i σ H' _ ⟨_, _, _, _, _, _, s, _⟩ => SqL.of (s _ _ hI.chs.at_)) ?_ ?_
  · rintro i x σ H2 p H3 hi ⟨L, v4, v5, v6, v7, rfl, s2, h2, ll, kn⟩ s3 np hp
    rw [List.getElem?_map] at hi
    cases ek : xs[i]? with
    | none => rw [ek] at hi; cases hi
    | some k =>
      rw [ek] at hi
      cases hi
      have hk := List.mem_of_getElem? ek
      have i40 : i < 40 := by
        have := (List.getElem?_eq_some_iff.mp ek).1
        have := hI.len
        omega
      have hI3 := hI.same (s2.trans s3)
      obtain ⟨k1, k2⟩ := (hI3.chs.ch k hk).kc
      obtain ⟨_, _, c1, _, _⟩ := id k2.ex
      refine ⟨p, _, rfl, SqT.of hp, rfl, _, _, rfl, _, _, rfl, ⟨k.1, _, rfl, SqT.of k1, rfl, _, _, rfl, _, _, rfl, rfl, ?_⟩⟩
      have h3 := s3 _ _ h2
      have l0 := (hI.ok k hk).l0
      refine ⟨rfl, _, rfl, _, rfl, _, _, rfl, rfl, cell, _, rfl, fun r r0 => ?_⟩
      refine ⟨_, rfl, _, rfl, _, rfl, kcOf H3 k.1, _, _, _, rfl, rfl, SqT.of c1, rfl, d, _, rfl, DPut.k (k := .inl k.2.1.n) h3 (small1000 (by rw [dI_len]; omega)), ?_⟩
      have s23 := s2.trans s3
      have s4 := s23.but nd (But.upd d H3 (.dK (putK (dI L) (.inl k.2.1.n) (.int k.2.2))))
      have h4 : upd H3 d (.dK (putK (dI L) (.inl k.2.1.n) (.int k.2.2))) d = some (.dK (dI (putI L k.2.1.n k.2.2))) := by rw [upd_same, dI_put]
      have c4 := (hI.same s4).chs.ch k hk
      generalize upd H3 d (.dK (putK (dI L) (.inl k.2.1.n) (.int k.2.2))) = H4 at s4 h4 c4 ⊢
      have kn1 : ∀ (j : Nat) k', j < i + 1 → xs[j]? = some k' → Knows (putI L k.2.1.n k.2.2) k'.2.1.n := fun j k' hj ej => knows_put l0 fun ne => by
        by_cases z : j = i
        · subst z
          rw [ek] at ej
          cases ej
          exact (ne rfl).elim
        · exact kn j k' (by omega) ej
      have ll1 := putI_len L k.2.1.n k.2.2
      refine ⟨_, rfl, cell, _, rfl, by decide, fun r2 r20 => ⟨_, _, rfl, rfl, (by show (0 : Int) < _; decide), rfl, _, rfl, ite2 (fun _ => ?_) (fun _ => ?_)⟩⟩
      · refine ⟨_, rfl, _, _, rfl, rfl, ⟨by decide, by decide⟩, _, rfl, _, _, rfl, rfl, _, _, rfl, rfl, (by show (0 : Int) < k.2.2 + 1; omega), _, rfl, _, rfl, _, _, rfl, rfl, _, rfl, _, _, rfl, rfl, ⟨by decide, by decide⟩, _, _, rfl, rfl, (by show (0 : Int) < _; decide), sz 4 (by decide), fun l1 H5 s5 n5 h5 => ?_⟩
        refine ⟨_, rfl, _, _, rfl, rfl, (by show (0 : Int) < _; decide), ?_⟩
        obtain ⟨v, ev, hv⟩ := at4 (r / 4 % (k.2.2 + 1)) k.2.2 (k.2.2 + 3) (r / 4 % 13) r
        have v0 : 0 ≤ v := by
          have z1 := Int.emod_nonneg (r / 4) (show k.2.2 + 1 ≠ 0 by omega)
          have z2 := Int.emod_nonneg (r / 4) (show (13 : Int) ≠ 0 by omega)
          rcases hv with e | e | e | e <;> omega
        obtain ⟨k5, k6⟩ := (c4.same s5).kc
        obtain ⟨_, _, c5, _, _⟩ := id k6.ex
        rw [kc_same c4 s5] at c5
        have ekc : kcOf H4 k.1 = kcOf H3 k.1 := by
          have a1 := kc_same (hI.chs.ch k hk) s4
          have a2 := kc_same (hI.chs.ch k hk) s23
          rw [a1, a2]
        rw [ekc] at c5
        refine ⟨l1, _, _, _, rfl, rfl, SqL.of h5, ev, ?_⟩
        have h5d := s5 _ _ h4
        refine ⟨_, rfl, _, rfl, kcOf H3 k.1, _, _, _, rfl, rfl, SqT.of c5, rfl, d, _, rfl, DPut.k (k := .inl k.2.1.n) h5d (small1000 (by rw [dI_len]; omega)), ?_⟩
        have ll2 : (putI (putI L k.2.1.n k.2.2) k.2.1.n v).length ≤ L.length + 2 := by
          have := putI_len (putI L k.2.1.n k.2.2) k.2.1.n v
          omega
        exact ⟨putI (putI L k.2.1.n k.2.2) k.2.1.n v, _, _, _, _, rfl, (s4.trans s5).but nd (But.upd _ _ _), by rw [upd_same, dI_put], by omega, fun j k' hj ej => knows_put v0 fun _ => kn1 j k' hj ej⟩
      · exact ⟨putI L k.2.1.n k.2.2, _, _, _, _, rfl, s4, h4, by omega, kn1⟩
  · rintro σ H2 ⟨L, v4, v5, v6, v7, rfl, s2, h2, ll, kn⟩
    refine ⟨_, rfl, q d L H2 s2 nd h2 fun k hk => ?_⟩
    obtain ⟨j, hj, ej⟩ := List.getElem_of_mem hk
    exact kn j k (by rw [ml]; exact hj) (by rw [List.getElem?_eq_getElem hj, ej])
def kvC (ps : List (Addr × Cl)) : List (Key × V) := ps.map fun p => (Sum.inl p.2.n, V.ref p.1)
theorem kvC_val : ∀ {ps : List (Addr × Cl)} {p : Addr × Cl}, ((ps.map (·.2)).map (·.n)).Nodup → p ∈ ps → valV (kvC ps) (.inl p.2.n) = some (.ref p.1)
  | x :: ps, p, nd, hp => by
    rw [List.map_cons, List.map_cons, List.nodup_cons] at nd
    show valV ((Sum.inl x.2.n, V.ref x.1) :: kvC ps) _ = _
    rcases List.mem_cons.mp hp with rfl | hp
    · rw [valV_pos rfl]
    · rw [valV_neg fun e => nd.1 (by rw [show x.2.n = p.2.n from Sum.inl.inj e]; exact List.mem_map.mpr ⟨p.2, List.mem_map.mpr ⟨p, hp, rfl⟩, rfl⟩)]
      exact kvC_val nd.2 hp
theorem dget_C {H : Hp} {a : Addr} {ps : List (Addr × Cl)} (h : Rd H a (.dK (kvC ps))) (nd : ((ps.map (·.2)).map (·.n)).Nodup) {p : Addr × Cl} (hp : p ∈ ps) : DGet H a (.int p.2.n) (some (.ref p.1)) := .inl ⟨_, .inl p.2.n, h, rfl, (kvC_val nd hp).symm⟩
theorem cut_from (xs : List V) (n : Nat) : cutV xs (some (n : Int)) none = xs.drop n := by
  unfold cutV
  rw [HT.sIx_nat, HT.sIx_none]
  rw [List.take_of_length_le (by rw [List.length_drop]; omega), Nat.min_def]
  split
  · rfl
  · rw [List.drop_of_length_le (by omega), List.drop_of_length_le (by omega)]
theorem at_last {xs : List V} {v : V} (h : xs.getLast? = some v) : atI xs (-1) = some v := by
  rw [List.getLast?_eq_some_iff] at h
  obtain ⟨ys, rfl⟩ := h
  exact atI_last ys v
structure Bk (K : PySem.W.Frag) (H : Hp) (dc dl : Addr) (ps : List (Addr × Cl)) (lf : Int → Int) : Prop where
  cl : Rd H dc (.dK (kvC ps))
  isc : ∀ p, p ∈ ps → IsCl K H p.1 p.2 ∧ p.2.Ok
  lf : ∃ L, Rd H dl (.dK (dI L)) ∧ ∀ p, p ∈ ps → valI L p.2.n = some (lf p.2.n)
theorem Bk.same {H H' : Hp} {dc dl : Addr} {ps : List (Addr × Cl)} {lf : Int → Int} (s : Same H H') (h : Bk K H dc dl ps lf) : Bk K H' dc dl ps lf :=
  ⟨h.cl.same s, fun p hp => ⟨(h.isc p hp).1.same s, (h.isc p hp).2⟩, let ⟨L, a, b⟩ := h.lf; ⟨L, a.same s, b⟩⟩
theorem Rd.but {H H' : Hp} {a d : Addr} {u : HO} (h : Rd H a u) (k : But d H H') (ne : a ≠ d) : Rd H' a u := h.imp (k _ _ ne) fun ⟨o, e⟩ => ⟨o, k _ _ ne e⟩
theorem clBut {H H' : Hp} {p d : Addr} {c : Cl} {u : HO} (h : IsCl K H p c) (k : But d H H') (hd : Rd H d u) (nt : ∀ ys, u ≠ .tup ys) : IsCl K H' p c := by
  have ne : ∀ q ys, H q = some (.tup ys) → q ≠ d := fun q ys e z => by
    subst z
    rcases hd with g | ⟨o, g⟩
    · rw [e] at g
      cases g
      exact nt _ rfl
    · rw [e] at g
      cases g
  obtain ⟨pw, ps, e1, e2, e3⟩ := h.ex
  exact ⟨⟨pw, ps, k _ _ (ne _ _ e1) e1, k _ _ (ne _ _ e2) e2, k _ _ (ne _ _ e3) e3⟩⟩
def spRR (K : PySem.W.Frag) : Sp := fun vs H Q _ => ∃ (dc dl m : Addr) (ps : List (Addr × Cl)) (lf : Int → Int) (h t : Int) (ws : List Int), vs = [.ref dc, .ref dl, .int h, .int t, .ref m] ∧ Bk K H dc dl ps lf ∧ dl ≠ dc ∧ ((ps.map (·.2)).map (·.n)).Nodup ∧ ps.length ≤ 40 ∧ H m = some (.lst (ws.map V.int)) ∧ 0 < h ∧ RowOk (ps.map (·.2)) lf h.toNat t ws ∧
  ∀ o H', But dc H H' → H' dc = some (.frz o (.dK (kvC ps))) → Q (.bl true) H'
theorem sc_law_row_right : FnScope ["_law_claims", "_law_left", "_law_hands", "_law_turn", "_law_numbers", "_law_number", "_law_one", "_law_other"] ["_law_claims", "_law_left", "_law_hands", "_law_turn", "_law_numbers"] (defScope s_law_row_right) := ⟨rfl, rfl, rfl, by decide +kernel, rfl, by decide +kernel, by decide +kernel⟩
theorem ok_law_row_right (D : Dfn K mg "_law_row_right" s_law_row_right ["_law_claims", "_law_left", "_law_hands", "_law_turn", "_law_numbers"] f fd) (T : Txt K mg) (C_law_is_ahead : Cal P w K mg base "_law_is_ahead" 2 ["_law_one", "_law_other", "_law_turn"] (spLahead K)) : Cal P w K mg base "_law_row_right" 3 ["_law_claims", "_law_left", "_law_hands", "_law_turn", "_law_numbers"] (spRR K) := by
  refine D.cal (D.F.ok sc_law_row_right (fun vs H Q E h => ?_) (fun cdv A outer s H vs Q E hr h => ?_))
  · obtain ⟨dc, dl, m, ps, lf, h, t, ws, rfl, _⟩ := h
    rfl
  obtain ⟨dc, dl, m, ps, lf, h, t, ws, rfl, B, ne, nd, p40, hm, h0, W, q⟩ := h
  refine ⟨_, (pss_cons (ps_if (PW.pt (pw_or (pt_cmpR op_gt (pe_callB call_len_seq rfl T.b_len bt_len (pa_cons (pv 4) pa_nil)) (pv 2) (nomark _)) (pw_or1 (pt_cmpR op_ne (pe_callB call_len_seq rfl T.b_len bt_len (pa_cons (pv 4) pa_nil)) (pe_callB call_len_seq rfl T.b_len bt_len (pa_cons (pe_comp (N := ["_law_number", "_law_numbers"]) (js := [4]) rfl (CompScope.of rfl rfl rfl rfl rfl (by decide +kernel) rfl rfl rfl rfl) (pi_dict (pv 0)) (fun _ _ _ _ _ => (ct_one (pt_cmpR (op_inK (K := K) rfl) (pv 0) (pv 1) rfl))) (fun _ _ _ _ _ => (pv 0))) pa_nil)) (nomark _))))) (pss_one (ps_ret pe_bl)) pss_nil)
      (pss_cons (ps_for PassesOwn.never rfl (pi_list (pv 4)) (pg_name (i := 5) sc_law_row_right.nd rfl (Or.inl rfl)) (pss_one (ps_if (PW.pt (pw_or (pt_cmpR op_lt (pe_dget hr.units1 (pv 1) (pv 5) (fun _ _ => rfl)) pe_int (nomark _)) (pw_or1 (pt_cmpR op_gt (pe_ix ix_tup (pe_dget hr.units1 (pv 0) (pv 5) (fun _ _ => rfl)) pe_int (fun _ _ => rfl)) (pv 3) (nomark _))))) (pss_one (ps_ret pe_bl)) pss_nil)))
      (pss_cons (ps_for PassesOwn.never rfl (pi_zip rfl T.b_zip (pa_cons (pv 4) (pa_cons (pe_slice sl_listS (pv 4) (po_some pe_int) po_none) pa_nil))) (pg_tup rfl (pgs_cons (pg_name (i := 6) sc_law_row_right.nd rfl (Or.inl rfl)) (pgs_cons (pg_name (i := 7) sc_law_row_right.nd rfl (Or.inl rfl)) pgs_nil))) (pss_one (ps_if (pt_not (pt_val (pe_cal C_law_is_ahead (hr.mono (by decide)) rfl (pa_cons (pe_dget hr.units1 (pv 0) (pv 6) (fun _ _ => rfl)) (pa_cons (pe_dget hr.units1 (pv 0) (pv 7) (fun _ _ => rfl)) (pa_cons (pv 3) pa_nil)))))) (pss_one (ps_ret pe_bl)) pss_nil)))
      (pss_cons (ps_for PassesOwn.never rfl (pi_dict (pv 0)) (pg_name (i := 5) sc_law_row_right.nd rfl (Or.inl rfl)) (pss_one (ps_if (PW.pt (pw_and (pt_cmpR op_gt (pe_dget hr.units1 (pv 1) (pv 5) (fun _ _ => rfl)) pe_int (nomark _)) (pw_and (pt_cmpR op_le (pe_ix ix_tup (pe_dget hr.units1 (pv 0) (pv 5) (fun _ _ => rfl)) pe_int (fun _ _ => rfl)) (pv 3) (nomark _)) (pw_and1 (pt_cmpR op_notIn_seq (pv 5) (pv 4) rfl))))) (pss_one (ps_if (PW.pt (pw_or (pt_cmpR op_lt (pe_callB call_len_seq rfl T.b_len bt_len (pa_cons (pv 4) pa_nil)) (pv 2) (nomark _)) (pw_or1 (pt_not (pt_val (pe_cal C_law_is_ahead (hr.mono (by decide)) rfl (pa_cons (pe_dget hr.units1 (pv 0) (pe_ix ix_list (pv 4) (pe_un un_neg pe_int) (fun _ _ => rfl)) (fun _ _ => rfl)) (pa_cons (pe_dget hr.units1 (pv 0) (pv 5) (fun _ _ => rfl)) (pa_cons (pv 3) pa_nil))))))))) (pss_one (ps_ret pe_bl)) pss_nil)) pss_nil)))
      (pss_one (ps_ret pe_bl)))))), ?_⟩
  have mw : (ws.map V.int).length = ws.length := List.length_map _
  have mk : (kvC ps).length = ps.length := List.length_map _
  have fl : (ws.map V.int).all flatV = true := List.all_eq_true.mpr fun y hy => by obtain ⟨i, _, rfl⟩ := List.mem_map.mp hy; rfl
  have wl := W.len
  refine ⟨_, rfl, m, _, rfl, .inl (SqL.of hm), _, rfl, _, _, rfl, rfl, _, rfl, iteDn (by rw [mw]; omega) ?_⟩
  have mdc : m ≠ dc := fun z => by
    subst z
    rcases B.cl with g | ⟨o, g⟩
    · rw [hm] at g; cases g
    · rw [hm] at g; cases g
  refine ⟨_, rfl, m, _, rfl, .inl (SqL.of hm), _, rfl, dc, _, rfl, B.cl, fun o H1 k1 h1 => ?_⟩
  have hm1 := k1 _ _ mdc hm
  have B1 : Bk K H1 dc dl ps lf := ⟨.inr ⟨o, h1⟩, fun p hp => ⟨clBut (B.isc p hp).1 k1 B.cl (fun ys z => by cases z), (B.isc p hp).2⟩, let ⟨L, a, b⟩ := B.lf; ⟨L, Rd.but a k1 ne, b⟩⟩
  refine comp_dict (kvs := kvC ps) (tak ps fun p => decide (p.2.n ∈ ws)) (itm ps fun p => V.int p.2.n) h1 ?_ ?_ (small1000 (by rw [mk]; omega)) (fun D H2 s2 nD hD => ?_)
  · intro i kv Hh Q' hi sh q'
    have z := q' Hh (Same.refl _)
    unfold tak at z
    unfold kvC at hi
    rw [List.getElem?_map] at hi
    cases e : ps[i]? with
    | none => rw [e] at hi; cases hi
    | some p =>
      rw [e] at hi z
      cases hi
      have ei : (if false = true then !inV (.int p.2.n) (ws.map V.int) else inV (.int p.2.n) (ws.map V.int)) = decide (p.2.n ∈ ws) := by
        rw [if_neg Bool.false_ne_true]
        exact inV_mem
      exact ⟨_, rfl, _, rfl, m, _, rfl, .inl (SqL.of (sh _ _ hm1)), rfl, fl, decide (p.2.n ∈ ws), congrArg V.bl ei, z⟩
  · intro i kv Hh Q' hi _ sh q'
    have z := q' Hh (Same.refl _)
    unfold itm at z
    unfold kvC at hi
    rw [List.getElem?_map] at hi
    cases e : ps[i]? with
    | none => rw [e] at hi; cases hi
    | some p =>
      rw [e] at hi z
      cases hi
      exact ⟨_, rfl, z⟩
  rw [mk, tak_fil] at hD
  have ec : ((ps.filter fun p => decide (p.2.n ∈ ws)).map fun p => V.int p.2.n).length = ws.length := by
    rw [List.length_map]
    have a1 : ((ps.filter fun p => decide (p.2.n ∈ ws)).map fun p => p.2.n).length ≤ ws.length := by
      refine len_sub ?_ fun x hx => ?_
      · rw [List.map_map] at nd
        exact nd.sublist (List.filter_sublist.map _)
      · obtain ⟨p, hp, rfl⟩ := List.mem_map.mp hx
        exact of_decide_eq_true (List.mem_filter.mp hp).2
    have a2 : ws.length ≤ ((ps.filter fun p => decide (p.2.n ∈ ws)).map fun p => p.2.n).length := by
      refine len_sub W.nd fun x hx => ?_
      obtain ⟨d, hd, e, _⟩ := W.inn x hx
      obtain ⟨p, hp, rfl⟩ := List.mem_map.mp hd
      exact List.mem_map.mpr ⟨p, List.mem_filter.mpr ⟨hp, by rw [e]; exact decide_eq_true hx⟩, e⟩
    rw [List.length_map] at a1 a2
    omega
  refine ⟨D, _, rfl, .inl (SqL.of hD), rfl, _, rfl, ?_⟩
  rw [ec, mw, decide_eq_true rfl]
  refine iteF ?_
  have hm2 := s2 _ _ hm1
  have B2 := B1.same s2
  have k2 : But dc H H2 := fun b u hb e => s2 _ _ (k1 b u hb e)
  have h2 := s2 _ _ h1
  have pin : ∀ w, w ∈ ws → ∃ p, p ∈ ps ∧ p.2.n = w ∧ 1 ≤ lf w ∧ p.2.came ≤ t := fun w hw => by
    obtain ⟨d, hd, r⟩ := W.inn w hw
    obtain ⟨p, hp, rfl⟩ := List.mem_map.mp hd
    exact ⟨p, hp, r⟩
  clear hD nD ec
  refine ⟨_, rfl, m, rfl, ⟨_, SqL.of hm2⟩, ?_⟩
  refine for_list (K := K) (a := m) (xs := ws.map V.int) (fun i σ H' => ∃ v5 : Option V, σ = [some (.ref dc), some (.ref dl), some (.int h), some (.int t), some (.ref m), v5, none, none] ∧ Same H2 H') ⟨_, rfl, Same.refl _⟩ (fun i σ H' _ ⟨_, _, s⟩ => SqL.of (s _ _ hm2)) ?_ ?_
  · rintro i x σ H3 hi ⟨v5, rfl, s3⟩
    rw [List.getElem?_map] at hi
    cases e : ws[i]? with
    | none => rw [e] at hi; cases hi
    | some w =>
      rw [e] at hi
      cases hi
      obtain ⟨p, hp, rfl, p1, p2⟩ := pin w (List.mem_of_getElem? e)
      have B3 := B2.same s3
      obtain ⟨L, rL, vL⟩ := B3.lf
      have g := dget_I rL p.2.n
      rw [vL p hp] at g
      obtain ⟨_, _, c1, _, _⟩ := id (B3.isc p hp).1.ex
      refine ⟨_, rfl, _, rfl, dl, _, rfl, g, _, _, rfl, rfl, _, rfl, iteDn (by omega) ?_⟩
      refine ⟨_, rfl, _, rfl, dc, _, rfl, dget_C B3.cl nd hp, p.1, _, _, _, rfl, rfl, SqT.of c1, rfl, _, rfl, _, _, rfl, rfl, _, rfl, iteDn (by omega) ?_⟩
      exact ⟨_, rfl, s3⟩
  · rintro σ H3 ⟨v5, rfl, s3⟩
    have hm3 := s3 _ _ hm2
    refine ⟨_, rfl, _, rfl, _, rfl, m, _, rfl, SqL.of hm3, fun l4 H4 s4 n4 h4 => ?_⟩
    rw [show (some (1 : Int)) = some ((1 : Nat) : Int) from rfl, cut_from] at h4
    have hm4 := s4 _ _ hm3
    have B4 := (B2.same s3).same s4
    refine ⟨m, l4, rfl, ⟨_, SqL.of hm4⟩, ⟨_, SqL.of h4⟩, ?_⟩
    refine for_zip (K := K) (a := m) (b := l4) (xs := ws.map V.int) (ys := (ws.map V.int).drop 1) (fun i σ H' => ∃ v6 v7 : Option V, σ = [some (.ref dc), some (.ref dl), some (.int h), some (.int t), some (.ref m), v5, v6, v7] ∧ Same H4 H') ⟨_, _, rfl, Same.refl _⟩ (fun i σ H' ⟨_, _, _, s⟩ => ⟨SqL.of (s _ _ hm4), SqL.of (s _ _ h4)⟩) ?_ ?_
    · rintro i x y σ H5 pp H6 hx hy ⟨v6, v7, rfl, s5⟩ s6 np hpp
      rw [List.getElem?_drop, List.getElem?_map] at hy
      rw [List.getElem?_map] at hx
      cases e : ws[i]? with
      | none => rw [e] at hx; cases hx
      | some w =>
        rw [e] at hx
        cases hx
        cases e' : ws[1 + i]? with
        | none => rw [e'] at hy; cases hy
        | some w' =>
          rw [e'] at hy
          cases hy
          obtain ⟨p, hp, rfl, _⟩ := pin w (List.mem_of_getElem? e)
          obtain ⟨p', hp', rfl, _⟩ := pin w' (List.mem_of_getElem? e')
          have B6 := (B4.same s5).same s6
          rw [Nat.add_comm] at e'
          have ah := W.srt i p.2 p'.2 e e' (List.mem_map.mpr ⟨p, hp, rfl⟩) (List.mem_map.mpr ⟨p', hp', rfl⟩)
          refine ⟨pp, _, rfl, SqT.of hpp, rfl, _, _, rfl, _, _, rfl, rfl, ?_⟩
          refine ⟨_, rfl, _, rfl, dc, _, rfl, dget_C B6.cl nd hp, _, rfl, _, rfl, dc, _, rfl, dget_C B6.cl nd hp', _, rfl, p.1, p'.1, p.2, p'.2, t, rfl, (B6.isc p hp).1, (B6.isc p' hp').1, (B6.isc p hp).2, (B6.isc p' hp').2, fun H7 s7 => ?_⟩
          rw [ah]
          exact ⟨_, rfl, iteF ⟨_, _, rfl, s5.trans (s6.trans s7)⟩⟩
    · rintro σ H5 ⟨v6, v7, rfl, s5⟩
      have s25 := s3.trans (s4.trans s5)
      refine ⟨_, rfl, dc, _, rfl, (B2.same s25).cl, fun o2 H6 k6 h6 => ?_⟩
      have k06 : But dc H H6 := fun b u hb e => k6 b u hb (s25 _ _ (k2 b u hb e))
      have B6 : Bk K H6 dc dl ps lf := ⟨.inr ⟨o2, h6⟩, fun p hp => ⟨clBut (B.isc p hp).1 k06 B.cl (fun ys z => by cases z), (B.isc p hp).2⟩, let ⟨L, a, b⟩ := B.lf; ⟨L, Rd.but a k06 ne, b⟩⟩
      have hm6 := k06 _ _ mdc hm
      refine for_dict (kvs := kvC ps) (fun i σ H' => ∃ v5 : Option V, σ = [some (.ref dc), some (.ref dl), some (.int h), some (.int t), some (.ref m), v5, v6, v7] ∧ Same H6 H') ⟨_, rfl, Same.refl _⟩ (fun i σ H' ⟨_, _, s⟩ => s _ _ h6) ?_ ?_
      · rintro i kv σ H7 hi ⟨v5', rfl, s7⟩
        unfold kvC at hi
        rw [List.getElem?_map] at hi
        cases e : ps[i]? with
        | none => rw [e] at hi; cases hi
        | some p =>
          rw [e] at hi
          cases hi
          have hp := List.mem_of_getElem? e
          have B7 := B6.same s7
          obtain ⟨L, rL, vL⟩ := B7.lf
          have g := dget_I rL p.2.n
          rw [vL p hp] at g
          obtain ⟨_, _, c1, _, _⟩ := id (B7.isc p hp).1.ex
          refine ⟨_, rfl, _, rfl, dl, _, rfl, g, _, _, rfl, rfl, _, rfl, ?_⟩
          by_cases z1 : 0 < lf p.2.n
          · refine iteD z1 ?_
            refine ⟨_, rfl, _, rfl, dc, _, rfl, dget_C B7.cl nd hp, p.1, _, _, _, rfl, rfl, SqT.of c1, rfl, _, rfl, _, _, rfl, rfl, _, rfl, ?_⟩
            by_cases z2 : p.2.came ≤ t
            · refine iteD z2 ?_
              have hm7 := s7 _ _ hm6
              have ei : (if true = true then !inV (.int p.2.n) (ws.map V.int) else inV (.int p.2.n) (ws.map V.int)) = !decide (p.2.n ∈ ws) := by
                rw [if_pos rfl]
                exact congrArg (!·) inV_mem
              refine ⟨_, rfl, _, rfl, m, _, rfl, .inl (SqL.of hm7), rfl, fl, !decide (p.2.n ∈ ws), congrArg V.bl ei, ?_⟩
              by_cases z3 : p.2.n ∈ ws
              · rw [decide_eq_true z3]
                exact iteF ⟨_, rfl, s7⟩
              · rw [decide_eq_false z3]
                refine iteT ?_
                obtain ⟨lw, la⟩ := W.rest p.2 (List.mem_map.mpr ⟨p, hp, rfl⟩) z3 z1 z2
                refine ⟨_, rfl, m, _, rfl, .inl (SqL.of hm7), _, rfl, _, _, rfl, rfl, _, rfl, iteDn (by rw [mw]; omega) ?_⟩
                obtain ⟨w, hw⟩ : ∃ w, ws.getLast? = some w := by
                  cases e2 : ws.getLast? with
                  | none =>
                    rw [List.getLast?_eq_none_iff] at e2
                    rw [e2] at lw
                    simp at lw
                    omega
                  | some w => exact ⟨w, rfl⟩
                obtain ⟨p', hp', rfl, _⟩ := pin w (List.mem_of_getLast? hw)
                have ah := la p'.2 (List.mem_map.mpr ⟨p', hp', rfl⟩) hw
                have hlast : atI (ws.map V.int) (-1) = some (.int p'.2.n) := at_last (by rw [List.getLast?_map, hw]; rfl)
                refine ⟨_, rfl, _, rfl, _, rfl, m, _, _, _, rfl, rfl, SqL.of hm7, hlast, dc, _, rfl, dget_C B7.cl nd hp', _, rfl, _, rfl, dc, _, rfl, dget_C B7.cl nd hp, _, rfl, p'.1, p.1, p'.2, p.2, t, rfl, (B7.isc p' hp').1, (B7.isc p hp).1, (B7.isc p' hp').2, (B7.isc p hp).2, fun H8 s8 => ?_⟩
                rw [ah]
                exact ⟨_, rfl, iteF ⟨_, rfl, s7.trans s8⟩⟩
            · exact iteDn z2 ⟨_, rfl, s7⟩
          · exact iteDn z1 ⟨_, rfl, s7⟩
      · rintro σ H7 ⟨v5', rfl, s7⟩
        exact q o2 H7 (fun b u hb e => s7 _ _ (k06 b u hb e)) (s7 _ _ h6)
theorem tk_range {L : List (Int × Int)} {k : Cl × Int} (kn : Knows L k.1.n) (l0 : 0 ≤ k.2) : 0 ≤ tkN L k ∧ tkN L k ≤ k.2 := by
  obtain ⟨r, hv, r0⟩ := kn
  unfold tkN
  rw [hv]
  show 0 ≤ (if k.2 < r then k.2 else r) ∧ (if k.2 < r then k.2 else r) ≤ k.2
  split <;> omega
theorem ChIn.taken {H H2 : Hp} {l D : Addr} {xs : List (Addr × Cl × Int)} {L : List (Int × Int)} {bs : List (Addr × List V)} (hI : ChIn K H l xs) (s : Same H H2) (kn : ∀ k, k ∈ xs → Knows L k.2.1.n) (B : IsBh H2 D (xs.map fun k => (kcOf H k.1, k.2.1, tkN L k.2)) bs) :
    ∃ ys, ChIn K H2 D ys ∧ ys.map (·.2) = takC L (xs.map (·.2)) := by
  obtain ⟨c1, c2⟩ := B.chs (K := K) fun k hk => by
    obtain ⟨q0, hq0, e⟩ := List.mem_map.mp hk
    rw [← e]
    exact (hI.chs.ch q0 hq0).kc.2.same s
  have e0 : (xs.map fun k => (kcOf H k.1, k.2.1, tkN L k.2)).map (·.2) = takC L (xs.map (·.2)) := by
    unfold takC
    rw [List.map_map, List.map_map]
    rfl
  refine ⟨_, ⟨c1, ?_, fun q' hq' => ?_, ?_⟩, c2.trans e0⟩
  · have := congrArg List.length c2
    rw [List.length_map, List.length_map, List.length_map] at this
    rw [this]
    exact hI.len
  · have := List.mem_map_of_mem (f := (·.2)) hq'
    rw [c2] at this
    obtain ⟨k, hk, e⟩ := List.mem_map.mp this
    obtain ⟨q0, hq0, e2⟩ := List.mem_map.mp hk
    subst e2
    have o := hI.ok q0 hq0
    have t := tk_range (kn q0 hq0) o.l0
    rw [← e]
    exact ⟨o.ok, t.1, Int.le_trans t.2 o.l1, o.cm⟩
  · have := congrArg (List.map fun x : Cl × Int => x.1.n) c2
    rw [List.map_map, List.map_map, List.map_map] at this
    have e2 : (zipB bs (xs.map fun k => (kcOf H k.1, k.2.1, tkN L k.2))).map (·.2.1.n) = xs.map (·.2.1.n) := this
    rw [e2]
    exact hI.nd
def Lf (xs : List (Addr × Cl × Int)) (c : Ch) : List (Int × Int) := xs.map fun k => (k.2.1.n, lfC c k.2.1.n)
theorem Lf_val : ∀ {xs : List (Addr × Cl × Int)} {c : Ch} {k : Addr × Cl × Int}, k ∈ xs → valI (Lf xs c) k.2.1.n = some (lfC c k.2.1.n)
  | x :: xs, c, k, hk => by
    unfold valI Lf
    rw [List.map_cons]
    by_cases e : x.2.1.n = k.2.1.n
    · rw [List.find?_cons_of_pos (by simpa using e), e]
      rfl
    · rw [List.find?_cons_of_neg (by simpa using e)]
      rcases List.mem_cons.mp hk with rfl | hk
      · exact (e rfl).elim
      · exact Lf_val hk
theorem Lf_keys (xs : List (Addr × Cl × Int)) (c : Ch) : (Lf xs c).map (·.1) = xs.map (·.2.1.n) := by
  unfold Lf
  rw [List.map_map]
  rfl
theorem Lf_bh {xs : List (Addr × Cl × Int)} {c : Ch} {ws : List Int} (g : GdC c) (pos : ∀ k, k ∈ c → 0 < k.2) (hw : ∀ n, n ∈ ws → n ∈ c.map (·.1.n)) : dn ws (Lf xs c) = Lf xs (bhC ws c) := by
  unfold dn Lf
  rw [List.map_map]
  refine List.map_congr_left fun k _ => ?_
  show (k.2.1.n, _) = _
  rw [lfC_bh0 g.nd pos (hw _)]
theorem wk_num {t : Int} {h : Nat} {c : Ch} (g : GdC c) {n : Int} (hn : n ∈ wkC t h c) : n ∈ c.map (·.1.n) := by
  obtain ⟨d, hd, e, _⟩ := (wkC_mem g).mp hn
  obtain ⟨x, hx, _⟩ := csC_mem.mp hd
  exact List.mem_map.mpr ⟨_, hx, e⟩
def psX (H : Hp) (xs : List (Addr × Cl × Int)) : List (Addr × Cl) := xs.map fun k => (kcOf H k.1, k.2.1)
theorem putK_newC {ps : List (Addr × Cl)} {n : Int} {v : V} (h : n ∉ ps.map (·.2.n)) : putK (kvC ps) (.inl n) v = kvC ps ++ [(.inl n, v)] := by
  refine putK_new v ?_
  cases e : valV (kvC ps) (.inl n) with
  | none => rfl
  | some v =>
    have := valV_in e
    unfold kvC at this
    rw [List.map_map] at this
    obtain ⟨p, hp, ep⟩ := List.mem_map.mp this
    exact (h (List.mem_map.mpr ⟨p, hp, Sum.inl.inj ep⟩)).elim
theorem takC_gd {L : List (Int × Int)} {c : Ch} (g : GdC c) : GdC (takC L c) := by
  refine ⟨fun k hk => ?_, ?_⟩
  · obtain ⟨j, hj, rfl⟩ := List.mem_map.mp hk
    exact g.ok j hj
  · unfold takC
    rw [List.map_map]
    exact g.nd
theorem take_at {α : Type} {xs : List α} {i : Nat} {x : α} (h : xs[i]? = some x) : xs.take (i + 1) = xs.take i ++ [x] := by
  rw [List.take_succ, h]
  rfl
theorem nodup_ix' {l : List Int} (nd : l.Nodup) {i j : Nat} {x : Int} (a : l[i]? = some x) (b : l[j]? = some x) : i = j := by
  obtain ⟨h1, e1⟩ := List.getElem?_eq_some_iff.mp a
  obtain ⟨h2, e2⟩ := List.getElem?_eq_some_iff.mp b
  rw [List.nodup_iff_pairwise_ne, List.pairwise_iff_getElem] at nd
  rcases Nat.lt_trichotomy i j with z | z | z
  · exact (nd i j h1 h2 z (e1.trans e2.symm)).elim
  · exact z
  · exact (nd j i h2 h1 z (e2.trans e1.symm)).elim
theorem not_before {xs : List (Addr × Cl × Int)} (nd : (xs.map (·.2.1.n)).Nodup) {i : Nat} {k : Addr × Cl × Int} (ek : xs[i]? = some k) : k.2.1.n ∉ (xs.take i).map (·.2.1.n) := fun z => by
  obtain ⟨j, hj, ej⟩ := List.mem_map.mp z
  obtain ⟨a, ha, ea⟩ := List.getElem_of_mem hj
  have ha' : a < i ∧ a < xs.length := by
    rw [List.length_take] at ha
    omega
  rw [List.getElem_take] at ea
  have n1 : (xs.map (·.2.1.n))[a]? = some k.2.1.n := by rw [List.getElem?_map, List.getElem?_eq_getElem ha'.2, ea, ← ej]; rfl
  have n2 : (xs.map (·.2.1.n))[i]? = some k.2.1.n := by rw [List.getElem?_map, ek]; rfl
  have := nodup_ix' nd n1 n2
  omega
theorem last_works {h : Nat} {b : Int} {c : Ch} {n : Nat} (pos : ∀ k, k ∈ (runN h n b c).2 → 0 < k.2) (ne : (runN h n b c).2 ≠ []) (e : (runN h (n + 1) b c).2 = []) : wkC (b + n) h (runN h n b c).2 ≠ [] := fun z => by
  rw [rwN_succ, z] at e
  have e : bhC [] (runN h n b c).2 = [] := e
  rw [bhC_nil, List.filter_eq_nil_iff] at e
  cases ec : (runN h n b c).2 with
  | nil => exact ne ec
  | cons k _ =>
    rw [ec] at e pos
    exact e k List.mem_cons_self (decide_eq_true (pos k List.mem_cons_self))
theorem sc_law : FnScope ["_law_script", "_law_begin_here", "_law_chores_here", "_law_hands", "_law_works_here", "_law_rows", "_law_claims", "_law_left", "_law_claim", "_law_many", "_law_k", "_law_turn", "_law_numbers", "_law_number", "_law_some"] ["_law_script"] (defScope s_law) := ⟨rfl, rfl, rfl, by decide +kernel, rfl, by decide +kernel, by decide +kernel⟩
theorem ok_law {cv : Value} (D : DfnC K mg "law" s_law ["_law_script"] f fd cv) (SL : Site K mg base cv tL) (T : Txt K mg) (C_run_of : CalD P w K mg base "run_of" 10 ["chores", "hands", "begin", "real"] (spRun P w K mg base tT)) (C_walk_run : Cal P w K mg base "walk_run" 10 ["chores", "hands", "begin", "rows"] (spWalk K tT)) (C_law_cell : Cal P w K mg base "_law_cell" 1 ["_law_script", "_law_k"] (spCell K)) (C_law_draw : Cal P w K mg base "_law_draw" 2 ["_law_cell_here", "_law_k"] spDraw) (C_law_begin : Cal P w K mg base "_law_begin" 3 ["_law_script"] (spBeginS K)) (C_law_chores : Cal P w K mg base "_law_chores" 4 ["_law_script", "_law_start", "_law_begin_here"] (spChores K)) (C_law_works : Cal P w K mg base "_law_works" 3 ["_law_script", "_law_chores_here"] (spWorks K)) (C_law_row_right : Cal P w K mg base "_law_row_right" 3 ["_law_claims", "_law_left", "_law_hands", "_law_turn", "_law_numbers"] (spRR K)) : FnOk P w K mg base CX0 11 f fd ["_law_script"] (spLaw K tT tL) := by
  refine D.F.ok sc_law (fun vs H Q E h => ?_) (fun A outer s H vs Q E hr h => ?_)
  · obtain ⟨a, ns, rfl, _⟩ := h
    rfl
  obtain ⟨a, ns, rfl, hS, h63, hT, hTL, q⟩ := h
  refine ⟨_, (pss_cons (ps_set (i := 1) sc_law.nd rfl (Or.inl rfl) (pe_cal C_law_begin (hr.mono (by decide)) rfl (pa_cons (pv 0) pa_nil)))
      (pss_cons (ps_set (i := 2) sc_law.nd rfl (Or.inl rfl) (pe_cal C_law_chores (hr.mono (by decide)) rfl (pa_cons (pv 0) (pa_cons pe_int (pa_cons (pv 1) pa_nil)))))
      (pss_cons (ps_set (i := 3) sc_law.nd rfl (Or.inl rfl) (pe_op op_add (pe_op op_add pe_int (pe_op op_mod (pe_cal C_law_draw (hr.mono (by decide)) rfl (pa_cons (pe_cal C_law_cell (hr.mono (by decide)) rfl (pa_cons (pv 0) (pa_cons pe_int pa_nil))) (pa_cons pe_int pa_nil))) pe_int)) (pe_op op_mul pe_int (pe_callTy call_int1 rfl T.b_int bt_int (pa_cons (pe_cmpR op_gt (pe_callB call_len_seq rfl T.b_len bt_len (pa_cons (pv 2) pa_nil)) pe_int (nomark _)) pa_nil)))))
      (pss_cons (ps_set (i := 4) sc_law.nd rfl (Or.inr rfl) (pe_cal C_law_works (hr.mono (by decide)) rfl (pa_cons (pv 0) (pa_cons (pv 2) pa_nil))))
      (pss_cons (ps_set (i := 5) sc_law.nd rfl (Or.inl rfl) (pe_calL3 (j := 3) (N := ["_law_number", "_law_works_here"]) (js := [4]) C_run_of (hr.mono (by decide)) rfl (CompScope.of rfl rfl rfl rfl rfl (by decide +kernel) rfl rfl rfl rfl) SL (pv 2) (pv 3) (pv 1) rfl (fun _ _ _ => rfl) (fun _ _ _ _ _ _ _ hrv => (pe_dget (hrv.deeper _).units1 (pv 1) (pv 0) (fun _ _ => rfl))) rfl))
      (pss_cons (ps_set (i := 6) sc_law.nd rfl (Or.inl rfl) pe_dnewS)
      (pss_cons (ps_set (i := 7) sc_law.nd rfl (Or.inl rfl) pe_dnewS)
      (pss_cons (ps_for PassesOwn.never rfl (pi_list (pv 2)) (pg_tup rfl (pgs_cons (pg_name (i := 8) sc_law.nd rfl (Or.inl rfl)) (pgs_cons (pg_name (i := 9) sc_law.nd rfl (Or.inl rfl)) pgs_nil))) (pss_cons (ps_dput hr.units1 (pv 6) (pe_ix ix_tup (pv 8) pe_int (fun _ _ => rfl)) (pv 8) rfl)
      (pss_one (ps_dput hr.units1 (pv 7) (pe_ix ix_tup (pv 8) pe_int (fun _ _ => rfl)) (pe_callB (call_min2 rfl) rfl T.b_min bt_min (pa_cons (pv 9) (pa_cons (pe_dget hr.units1 (pv 4) (pe_ix ix_tup (pv 8) pe_int (fun _ _ => rfl)) (fun _ _ => rfl)) pa_nil))) rfl))))
      (pss_cons (ps_for PassesOwn.never rfl (pi_enum rfl T.b_enumerate (pa_cons (pv 5) pa_nil)) (pg_tup rfl (pgs_cons (pg_name (i := 10) sc_law.nd rfl (Or.inl rfl)) (pgs_cons (pg_tup rfl (pgs_cons (pg_name (i := 11) sc_law.nd rfl (Or.inl rfl)) (pgs_cons (pg_name (i := 12) sc_law.nd rfl (Or.inl rfl)) pgs_nil))) pgs_nil))) (pss_cons (ps_if (PW.pt (pw_or (pt_cmpR op_ne (pv 11) (pe_op op_add (pv 1) (pv 10)) (nomark _)) (pw_or1 (pt_not (pt_val (pe_cal C_law_row_right (hr.mono (by decide)) rfl (pai (pai_cons (pv 6) (pai_cons (pv 7) (pai_cons (pv 3) (pai_cons (pv 11) (pai_cons (pv 12) pai_nil)))))))))))) (pss_one (ps_ret pe_bl)) pss_nil)
      (pss_one (ps_for PassesOwn.never rfl (pi_list (pv 12)) (pg_name (i := 13) sc_law.nd rfl (Or.inl rfl)) (pss_one (ps_dput hr.units1 (pv 7) (pv 13) (pe_op op_sub (pe_dget hr.units1 (pv 7) (pv 13) (fun _ _ => rfl)) pe_int) rfl))))))
      (pss_mid (ps_if (PW.pt (pw_or (pt_cmpR op_ne (pe_callB (call_sumV hr.hd) rfl T.b_sum bt_sum (pa_cons (pe_bm0 PySem.F.plainAttrs_dict PySem.F.slot_dict_values PySem.F.type_dict_values mt_dvals (pv 7)) pa_nil)) pe_int (nomark _)) (pw_or1 (PW.pt (pw_and (pt_cmpR (op_neE hr.units0) (pv 5) (pe_lstS pa_nil) (nomark _)) (pw_and1 (pt_cmpR (op_eqE hr.units0) (pe_ix ix_tup (pe_ix ix_list (pv 5) (pe_un un_neg pe_int) (fun _ _ => rfl)) pe_int (fun _ _ => rfl)) (pe_lstS pa_nil) (nomark _)))))))) (pss_one (ps_ret pe_bl)) pss_nil)
      (pss_cons (ps_setCT (i := 14) (nk := 2) (g := (gTup K 2 (gCons (gName 0) (gCons (gName 1) gNil)))) (N := ["_law_claim", "_law_many", "_law_works_here"]) (js := [4]) sc_law.nd rfl rfl rfl (CompScopeN.of rfl rfl rfl rfl rfl (by decide +kernel) rfl rfl rfl) (fun _ _ _ _ _ hn => (pg_tup rfl (pgs_cons (hn 0 _ _ rfl (by decide)) (pgs_cons (hn 1 _ _ rfl (by decide)) pgs_nil)))) (pi_list (pv 2)) (fun _ _ _ _ _ => ct_nil) (fun _ _ _ _ _ => (pe_tupS (pa_cons (pv 0) (pa_cons (pe_callB (call_min2 rfl) rfl T.b_min bt_min (pa_cons (pv 1) (pa_cons (pe_dget hr.units1 (pv 2) (pe_ix (r := rIxT K) ix_tup (pv 0) pe_int (fun _ _ => rfl)) (fun _ _ => rfl)) pa_nil))) pa_nil)))))
      (pss_one (ps_ret (pe_cmpR (op_eqE hr.units0) (pe_cal C_walk_run (hr.mono (by decide)) rfl (pai (pai_cons (pv 14) (pai_cons (pv 3) (pai_cons (pv 1) (pai_cons (pv 5) pai_nil)))))) (pe_lstS pa_nil) (nomark _))))))))))))))), ?_⟩
  refine ⟨_, rfl, a, ns, rfl, hS, fun b H1 s1 b0 b1 => ?_⟩
  refine ⟨_, rfl, _, rfl, a, ns, _, b, rfl, s1.seq hS, by decide, b0, b1, fun l xs H2 s2 nl hx x40 ox nd => ?_⟩
  have s02 := s1.trans s2
  have hI : ChIn K H2 l xs := ⟨hx, x40, ox, nd⟩
  have ml : (xs.map fun q => V.ref q.1).length = xs.length := List.length_map _
  refine ⟨_, rfl, a, ns, _, rfl, s02.seq hS, by decide, fun cell => ⟨cell, _, rfl, by decide, fun r1 r10 => ⟨_, _, rfl, rfl, (by show (0 : Int) < _; decide), _, _, rfl, rfl, _, rfl, l, _, rfl, .inl (SqL.of hI.chs.at_), _, _, rfl, rfl, .inr ⟨_, rfl, _, _, rfl, rfl, .inl ⟨by decide, by decide⟩, _, _, rfl, rfl, ?_⟩⟩⟩⟩
  have hh : ∃ hv : Int, 0 < hv ∧ hv = 1 + r1 % 6 + 2 * (if decide ((8 : Int) < ((xs.map fun q => V.ref q.1).length : Int)) = true then 1 else 0) := ⟨_, by split <;> omega, rfl⟩
  obtain ⟨hv, h0, eh⟩ := hh
  dsimp only
  rw [← eh]
  clear eh
  refine ⟨_, rfl, _, rfl, a, l, ns, xs, rfl, s02.seq hS, hI, fun d L H3 s3 nd3 hd3 kn => ?_⟩
  have s03 := s02.trans s3
  refine ⟨_, rfl, _, rfl, _, rfl, s03 _ _ hTL, fun f cl H4 s4 Lm => ⟨f, cl, [.ref d], Lm, rfl, fun cs ev non ndc F => ?_⟩⟩
  have st := same_trc non
  have s24 := s3.trans (s4.trans st)
  have hIt := hI.same s24
  have hdt := (s4.trans st) _ _ hd3
  refine ⟨l, f, xs, L, hv, b, rfl, hIt, h0, b0, by omega, s24 _ _ (s02 _ _ hT), F.imp fun vs Hf Qf sf hf => ?_, kn, fun D H5 rs s5 nD R l40 l14 => ⟨fun p hp => s5 _ _ (trc_at ndc hp), ?_⟩⟩
  · obtain ⟨n, r, rfl, hv', hf⟩ := hf
    have ec : (cs.map fun p => some p.2.2) = [some (V.ref d)] := by
      have := congrArg (List.map some) ev
      rw [List.map_map] at this
      exact this
    have cel : ∀ p, p ∈ cs → Hf p.1 = some (cellE p) := fun p hp => sf _ _ (trc_at ndc hp)
    have back := trc_drp (H := Hf) ndc cel
    have g := dget_I (.inl (drp_get cel (fun φ z => by cases z) (sf _ _ hdt))) n
    rw [hv'] at g
    refine ⟨.int n, rfl, ?_⟩
    rw [ec]
    refine ⟨_, rfl, _, rfl, d, _, rfl, g, ?_⟩
    show Qf (V.int r) (trc (drp Hf cs) cs)
    rw [back]
    exact hf
  have hc : ∀ p, p ∈ cs → H5 p.1 = some (cellE p) := fun p hp => s5 _ _ (trc_at ndc hp)
  have Rr := R.run.drp hc
  obtain ⟨n, en, ez, el⟩ := R.eq
  have s36 : Same H3 (drp H5 cs) := s4.trans (drp_same non s5)
  generalize drp H5 cs = H6 at Rr s36 ⊢
  clear R F Lm hIt hdt hc s5 nD st s24
  have s26 := s3.trans s36
  have s06 := s02.trans s26
  have hd6 := s36 _ _ hd3
  have hI6 := hI.same s26
  generalize hcT : takC L (xs.map (·.2)) = cT at en ez el
  have gT : GdC cT := by rw [← hcT]; exact takC_gd hI.gd
  have pT : ∀ k, k ∈ cT → 0 ≤ k.2 := fun k hk => by
    rw [← hcT] at hk
    obtain ⟨j, hj, rfl⟩ := List.mem_map.mp hk
    obtain ⟨x, hx', rfl⟩ := List.mem_map.mp hj
    exact (tk_range (kn x hx') (ox x hx').l0).1
  generalize hc0 : bhC [] cT = c0 at en ez el
  have g0 : GdC c0 := by rw [← hc0]; exact gT.bh []
  have gi : ∀ i, GdC (runN hv.toNat i b c0).2 := fun i => gd_run g0 i
  have pi : ∀ i k, k ∈ (runN hv.toNat i b c0).2 → 0 < k.2 := fun i k hk => by
    cases i with
    | zero =>
      have hk : k ∈ c0 := hk
      rw [← hc0] at hk
      exact bhC_pos hk
    | succ i =>
      rw [rwN_succ] at hk
      exact bhC_pos hk
  have inn : ∀ i k, k ∈ (runN hv.toNat i b c0).2 → k.1 ∈ (psX H2 xs).map (·.2) := fun i => by
    induction i with
    | zero =>
      intro k hk
      have hk : k ∈ c0 := hk
      rw [← hc0] at hk
      obtain ⟨j, hj, e, _⟩ := bhC_mem hk
      rw [← hcT] at hj
      obtain ⟨y, hy, rfl⟩ := List.mem_map.mp hj
      obtain ⟨x, hx', rfl⟩ := List.mem_map.mp hy
      rw [e]
      exact List.mem_map.mpr ⟨_, List.mem_map.mpr ⟨x, hx', rfl⟩, rfl⟩
    | succ i ih =>
      intro k hk
      rw [rwN_succ] at hk
      obtain ⟨j, hj, e, _⟩ := bhC_mem hk
      rw [e]
      exact ih j hj
  have npX : (((psX H2 xs).map (·.2)).map (·.n)).Nodup := by
    unfold psX
    rw [List.map_map, List.map_map]
    exact nd
  have lpX : (psX H2 xs).length ≤ 40 := by
    unfold psX
    rw [List.length_map]
    exact x40
  refine fun dc H7 s7 n7 h7 => fun dl H8 s8 n8 h8 => ?_
  have ndl : H6 dl = none := Same.free s7 n8
  have nlc : dl ≠ dc := fun z => by rw [z, h7] at n8; cases n8
  have s68 := s7.trans s8
  have mr : (rs.map fun r => V.ref r.1).length = rs.length := List.length_map _
  have lr : rs.length = n := by
    have := congrArg List.length en
    rw [List.length_map, rwN_len] at this
    exact this
  refine ⟨_, rfl, l, rfl, ⟨_, SqL.of (hI6.same s68).chs.at_⟩, ?_⟩
  refine for_list (K := K) (a := l) (xs := xs.map fun q => V.ref q.1) (fun i σ H' => ∃ v8 v9 : Option V, σ = [some (.ref a), some (.int b), some (.ref l), some (.int hv), some (.ref d), some (.ref D), some (.ref dc), some (.ref dl), v8, v9, none, none, none, none, none] ∧ Same H6 H' ∧ H' dc = some (.dK (kvC (psX H2 (xs.take i)))) ∧ H' dl = some (.dK (dI ((xs.take i).map fun k => (k.2.1.n, tkN L k.2)))))
    ⟨_, _, rfl, s68, s8 _ _ h7, h8⟩ (fun i σ H' _ ⟨_, _, _, s, _⟩ => SqL.of (s _ _ hI6.chs.at_)) ?_ ?_
  · rintro i x σ H9 hi ⟨v8, v9, rfl, s9, hc9, hl9⟩
    rw [List.getElem?_map] at hi
    cases ek : xs[i]? with
    | none => rw [ek] at hi; cases hi
    | some k =>
      rw [ek] at hi
      cases hi
      have hk := List.mem_of_getElem? ek
      have ekc : ∀ H', Same H6 H' → kcOf H' k.1 = kcOf H2 k.1 := fun H' s' => kc_same (hI.chs.ch k hk) (s26.trans s')
      obtain ⟨k1, k2⟩ := ((hI6.chs.ch k hk).same s9).kc
      rw [ekc H9 s9] at k1 k2
      obtain ⟨_, _, c1, _, _⟩ := id k2.ex
      have no := not_before nd ek
      refine ⟨k.1, _, rfl, SqT.of k1, rfl, _, _, rfl, _, _, rfl, rfl, ?_⟩
      refine ⟨_, rfl, _, rfl, _, rfl, kcOf H2 k.1, _, _, _, rfl, rfl, SqT.of c1, rfl, dc, _, rfl, DPut.k (k := .inl k.2.1.n) hc9 (small1000 (by unfold kvC psX; rw [List.length_map, List.length_map, List.length_take]; omega)), ?_⟩
      have s10 := s9.but n7 (But.upd dc H9 (.dK (putK (kvC (psX H2 (xs.take i))) (.inl k.2.1.n) (.ref (kcOf H2 k.1)))))
      have hc10 : upd H9 dc (.dK (putK (kvC (psX H2 (xs.take i))) (.inl k.2.1.n) (.ref (kcOf H2 k.1)))) dc = some (.dK (kvC (psX H2 (xs.take (i + 1))))) := by
        rw [upd_same, putK_newC (by unfold psX; rw [List.map_map]; exact no), take_at ek]
        unfold kvC psX
        rw [List.map_append, List.map_append]
        rfl
      have hl10 : upd H9 dc (.dK (putK (kvC (psX H2 (xs.take i))) (.inl k.2.1.n) (.ref (kcOf H2 k.1)))) dl = some (.dK (dI ((xs.take i).map fun k => (k.2.1.n, tkN L k.2)))) := by
        rw [upd_ne nlc]
        exact hl9
      generalize upd H9 dc (.dK (putK (kvC (psX H2 (xs.take i))) (.inl k.2.1.n) (.ref (kcOf H2 k.1)))) = H10 at s10 hc10 hl10 ⊢
      obtain ⟨j1, j2⟩ := ((hI6.chs.ch k hk).same s10).kc
      rw [ekc H10 s10] at j1 j2
      obtain ⟨_, _, c2, _, _⟩ := id j2.ex
      obtain ⟨r, hr', r0⟩ := kn k hk
      have g := dget_I (.inl (s10 _ _ hd6)) k.2.1.n
      rw [hr'] at g
      have et : (if r < k.2.2 then r else k.2.2) = tkN L k.2 := by
        unfold tkN
        rw [hr']
        show _ = if k.2.2 < r then k.2.2 else r
        split <;> split <;> omega
      refine ⟨_, rfl, _, rfl, _, rfl, kcOf H2 k.1, _, _, _, rfl, rfl, SqT.of c2, rfl, d, _, rfl, g, _, _, rfl, ?_⟩
      rw [et]
      refine ⟨_, rfl, _, rfl, kcOf H2 k.1, _, _, _, rfl, rfl, SqT.of c2, rfl, dl, _, rfl, DPut.k (k := .inl k.2.1.n) hl10 (small1000 (by rw [dI_len, List.length_map, List.length_take]; omega)), ?_⟩
      refine ⟨_, _, rfl, s10.but ndl (But.upd _ _ _), by rw [upd_ne (Ne.symm nlc)]; exact hc10, ?_⟩
      rw [upd_same, dI_put, putI_new (by rw [List.map_map]; exact no), take_at ek, List.map_append]
      rfl
  · rintro σ H9 ⟨v8, v9, rfl, s9, hc9, hl9⟩
    rw [ml, List.take_length] at hc9 hl9
    have eL : (xs.map fun k => (k.2.1.n, tkN L k.2)) = Lf xs c0 := by
      unfold Lf
      refine List.map_congr_left fun k hk => ?_
      have hm : (k.2.1, tkN L k.2) ∈ cT := by
        rw [← hcT]
        exact List.mem_map.mpr ⟨k.2, List.mem_map.mpr ⟨k, hk, rfl⟩, rfl⟩
      have := lfC_first gT.nd pT hm
      rw [hc0] at this
      rw [show lfC c0 k.2.1.n = tkN L k.2 from this]
    rw [eL] at hl9
    have iscl : ∀ H', Same H6 H' → ∀ p, p ∈ psX H2 xs → IsCl K H' p.1 p.2 ∧ p.2.Ok := fun H' s' p hp => by
      obtain ⟨k, hk, rfl⟩ := List.mem_map.mp hp
      exact ⟨(hI.chs.ch k hk).kc.2.same (s26.trans s'), (ox k hk).ok⟩
    have valp : ∀ c p, p ∈ psX H2 xs → valI (Lf xs c) p.2.n = some (lfC c p.2.n) := fun c p hp => by
      obtain ⟨k, hk, rfl⟩ := List.mem_map.mp hp
      exact Lf_val hk
    refine ⟨_, rfl, D, rfl, ⟨_, SqL.of (s9 _ _ Rr.at_)⟩, ?_⟩
    refine for_enum (K := K) (a := D) (xs := rs.map fun r => V.ref r.1) (fun i σ H' => ∃ v8 v9 v10 v11 v12 v13 : Option V, σ = [some (.ref a), some (.int b), some (.ref l), some (.int hv), some (.ref d), some (.ref D), some (.ref dc), some (.ref dl), v8, v9, v10, v11, v12, v13, none] ∧ Same H6 H' ∧ Rd H' dc (.dK (kvC (psX H2 xs))) ∧ H' dl = some (.dK (dI (Lf xs (runN hv.toNat i b c0).2))))
      ⟨_, _, _, _, _, _, rfl, s9, .inl hc9, hl9⟩ (fun i σ H' _ ⟨_, _, _, _, _, _, _, s, _⟩ => SqL.of (s _ _ Rr.at_)) ?_ ?_
    · rintro i x σ H10 p H11 hi ⟨v8', v9', v10, v11, v12, v13, rfl, s10, hc10, hl10⟩ s11 np hp
      rw [List.getElem?_map] at hi
      cases e : rs[i]? with
      | none => rw [e] at hi; cases hi
      | some r =>
        rw [e] at hi
        cases hi
        have hr' := List.mem_of_getElem? e
        have ir : i < n := by
          have := (List.getElem?_eq_some_iff.mp e).1
          omega
        have ea := run_at (h := hv.toNat) (b := b) (c := c0) ir
        rw [← en, List.getElem?_map, e] at ea
        have ea : some (r.2.2.1, r.2.2.2) = some (b + i, wkC (b + i) hv.toNat (runN hv.toNat i b c0).2) := ea
        injection ea with ea
        injection ea with ea1 ea2
        have s611 := s10.trans s11
        have hrow := s611 _ _ (Rr.row r hr')
        have hnum := s611 _ _ (Rr.num r hr')
        refine ⟨p, _, rfl, SqT.of hp, rfl, _, _, rfl, _, _, rfl, ⟨r.1, _, rfl, SqT.of hrow, rfl, _, _, rfl, _, _, rfl, rfl, ⟨rfl, ?_⟩⟩⟩
        refine ⟨_, rfl, _, rfl, _, rfl, _, _, rfl, rfl, rfl, _, rfl, ?_⟩
        rw [decide_eq_true (show V.int r.2.2.1 = V.int (b + i) by rw [ea1])]
        refine iteF ?_
        have W : RowOk ((psX H2 xs).map (·.2)) (lfC (runN hv.toNat i b c0).2) hv.toNat r.2.2.1 r.2.2.2 := by
          rw [ea1, ea2]
          exact row_ok (gi i) (inn i) npX
        refine ⟨_, rfl, _, rfl, _, rfl, _, rfl, _, rfl, dc, dl, r.2.1, psX H2 xs, lfC (runN hv.toNat i b c0).2, hv, r.2.2.1, r.2.2.2, rfl, ⟨hc10.same s11, iscl H11 s611, ⟨_, .inl (s11 _ _ hl10), valp _⟩⟩, nlc, npX, lpX, hnum, h0, W, fun o H12 k12 h12 => ?_⟩
        refine ⟨_, rfl, iteF ?_⟩
        have s12 := s611.but n7 k12
        have hl12 := k12 _ _ nlc (s11 _ _ hl10)
        have mw : (r.2.2.2.map V.int).length = r.2.2.2.length := List.length_map _
        refine ⟨_, rfl, r.2.1, rfl, ⟨_, SqL.of (s12 _ _ (Rr.num r hr'))⟩, ?_⟩
        refine for_list (K := K) (a := r.2.1) (xs := r.2.2.2.map V.int) (fun j σ H' => ∃ v13 : Option V, σ = [some (.ref a), some (.int b), some (.ref l), some (.int hv), some (.ref d), some (.ref D), some (.ref dc), some (.ref dl), v8', v9', some (.int i), some (.int r.2.2.1), some (.ref r.2.1), v13, none] ∧ Same H6 H' ∧ Rd H' dc (.dK (kvC (psX H2 xs))) ∧ H' dl = some (.dK (dI (dn (r.2.2.2.take j) (Lf xs (runN hv.toNat i b c0).2)))))
          ⟨_, rfl, s12, .inr ⟨o, h12⟩, by rw [List.take_zero, dn_nil]; exact hl12⟩ (fun j σ H' _ ⟨_, _, s, _⟩ => SqL.of (s _ _ (Rr.num r hr'))) ?_ ?_
        · rintro j x σ H13 hj ⟨v13', rfl, s13, hc13, hl13⟩
          rw [List.getElem?_map] at hj
          cases ew : r.2.2.2[j]? with
          | none => rw [ew] at hj; cases hj
          | some w =>
            rw [ew] at hj
            cases hj
            obtain ⟨dd, hdd, edd, _⟩ := W.inn w (List.mem_of_getElem? ew)
            obtain ⟨pp, hpp, rfl⟩ := List.mem_map.mp hdd
            have vw := valp (runN hv.toNat i b c0).2 pp hpp
            rw [edd] at vw
            have nw : w ∉ r.2.2.2.take j := fun z => by
              obtain ⟨a', ha, ea⟩ := List.getElem_of_mem z
              have ha' : a' < j ∧ a' < r.2.2.2.length := by
                rw [List.length_take] at ha
                omega
              rw [List.getElem_take] at ea
              have := nodup_ix' W.nd (i := a') (j := j) (x := w) (by rw [List.getElem?_eq_getElem ha'.2, ea]) ew
              omega
            have g := dget_I (.inl hl13) w
            rw [valI_dn, vw] at g
            have g : DGet H13 dl (.int w) (some (.int (if w ∈ r.2.2.2.take j then lfC (runN hv.toNat i b c0).2 w - 1 else lfC (runN hv.toNat i b c0).2 w))) := g
            rw [if_neg nw] at g
            refine ⟨_, rfl, _, rfl, dl, _, rfl, g, _, _, rfl, rfl, _, rfl, _, rfl, dl, _, rfl, DPut.k (k := .inl w) hl13 (small1000 (by rw [dI_len]; unfold dn Lf; rw [List.length_map, List.length_map]; omega)), ?_⟩
            refine ⟨_, rfl, s13.but ndl (But.upd _ _ _), Rd.but hc13 (But.upd _ _ _) (Ne.symm nlc), ?_⟩
            rw [upd_same, dI_put, dn_put (by rw [Lf_keys]; exact nd) vw nw, take_at ew]
        · rintro σ H13 ⟨v13', rfl, s13, hc13, hl13⟩
          rw [mw, List.take_length] at hl13
          refine ⟨_, _, _, _, _, _, rfl, s13, hc13, ?_⟩
          rw [hl13, ea2, Lf_bh (gi i) (pi i) fun m hm => wk_num (gi i) hm, rwN_succ]
    · rintro σ H10 ⟨v8', v9', v10, v11, v12, v13, rfl, s10, hc10, hl10⟩
      rw [mr, lr, ez] at hl10
      have zer : ∀ p, p ∈ Lf xs [] → p.2 = 0 := fun p hp => by
        obtain ⟨k, _, rfl⟩ := List.mem_map.mp hp
        rfl
      refine ⟨fun σ' H' => σ' = [some (.ref a), some (.int b), some (.ref l), some (.int hv), some (.ref d), some (.ref D), some (.ref dc), some (.ref dl), v8', v9', v10, v11, v12, v13, none] ∧ Same H6 H', ?_, ?_⟩
      · refine ⟨_, rfl, .inr (.inr (.inl ⟨rfl, .inl ⟨_, hl10⟩⟩)), dl, _, rfl, rfl, hl10, fun v H11 s11 nv hv2 => ⟨v, dl, _, rfl, hv2, s11 _ _ hl10, zer, rfl, _, rfl, ?_⟩⟩
        rw [decide_eq_true rfl]
        refine iteF ?_
        have s611 := s10.trans s11
        have R11 := Rr.same s611
        refine ⟨_, rfl, sz 0 (by decide), fun m1 H12 s12 n12 h12 => ⟨D, m1, _, rfl, rfl, SqL.of (s12 _ _ R11.at_), SqL.of h12, _, rfl, ?_⟩⟩
        have R12 := R11.same s12
        have s612 := s611.trans s12
        rcases List.eq_nil_or_concat rs with ers | ⟨rt, rl, ers⟩
        · rw [ers]
          exact iteF ⟨rfl, s612⟩
        · have e1 : (rs.map fun r => V.ref r.1).isEmpty = false := by
            rw [ers]
            simp
          rw [e1]
          refine iteT ?_
          have hrl : rl ∈ rs := by rw [ers]; simp
          have hlast : atI (rs.map fun r => V.ref r.1) (-1) = some (V.ref rl.1) := by
            rw [ers, List.concat_eq_append, List.map_append]
            exact atI_last _ _
          obtain ⟨n', rfl⟩ : ∃ n', n = n' + 1 := by
            have : rs.length = rt.length + 1 := by rw [ers]; simp
            exact ⟨rt.length, by omega⟩
          have erl : rl.2.2.2 = wkC (b + n') hv.toNat (runN hv.toNat n' b c0).2 := by
            have ea := run_at (h := hv.toNat) (b := b) (c := c0) (Nat.lt_succ_self n')
            have lt : rt.length = n' := by
              have : rs.length = rt.length + 1 := by rw [ers]; simp
              omega
            rw [← en, List.getElem?_map, ers, List.concat_eq_append, List.getElem?_append_right (by omega), lt, Nat.sub_self] at ea
            have ea : some (rl.2.2.1, rl.2.2.2) = some (b + n', wkC (b + n') hv.toNat (runN hv.toNat n' b c0).2) := ea
            injection ea with ea
            injection ea
          have nel : rl.2.2.2 ≠ [] := by
            rw [erl]
            exact last_works (pi n') (el n' (Nat.lt_succ_self n')) ez
          refine ⟨_, rfl, _, rfl, D, _, _, _, rfl, rfl, SqL.of R12.at_, hlast, rl.1, _, _, _, rfl, rfl, SqT.of (R12.row rl hrl), rfl, sz 0 (by decide), fun m2 H13 s13 n13 h13 => ⟨rl.2.1, m2, _, rfl, rfl, SqL.of ((R12.same s13).num rl hrl), SqL.of h13, _, rfl, ?_⟩⟩
          have e2 : (rl.2.2.2.map V.int).isEmpty = false := by
            cases ew : rl.2.2.2 with
            | nil => exact (nel ew).elim
            | cons _ _ => rfl
          rw [e2]
          exact iteF ⟨rfl, s612.trans s13⟩
      · rintro σ' H11 ⟨rfl, s11⟩
        have hI11 := hI6.same s11
        have s211 := s26.trans s11
        refine ⟨_, rfl, l, rfl, ⟨_, SqL.of hI11.chs.at_⟩, ?_⟩
        refine comp_tupsG (xs := xs.map fun q => V.ref q.1) (sts 2 xs fun k => [.ref (kcOf H11 k.1), .int k.2.2]) (tak xs fun _ => true) (itl xs fun k => [V.ref (kcOf H11 k.1), V.int (tkN L k.2)]) (SqL.of hI11.chs.at_) (sts_len fun _ => rfl) ?_ ?_ ?_ (small1000 (by rw [ml]; omega)) (fun D2 H12 bs s12 nD2 hD2 eb hb => ?_)
        · intro j x Hh os R' hxj sh ol r'
          obtain ⟨o1, o2, rfl⟩ := len2 ol
          rw [List.getElem?_map] at hxj
          cases ek : xs[j]? with
          | none => rw [ek] at hxj; cases hxj
          | some k =>
            rw [ek] at hxj
            cases hxj
            unfold sts at r'
            rw [ek] at r'
            obtain ⟨k1, k2⟩ := (hI11.chs.ch k (List.mem_of_getElem? ek)).kc
            exact ⟨k.1, _, rfl, SqT.of (sh _ _ k1), rfl, _, _, rfl, _, _, rfl, rfl, r'⟩
        · intro j x Hh Q' hxj sh q'
          have z := q' Hh (Same.refl _)
          unfold tak at z
          rw [List.getElem?_map] at hxj
          cases ek : xs[j]? with
          | none => rw [ek] at hxj; cases hxj
          | some k =>
            rw [ek] at z
            exact z
        · intro j x Hh Q' hxj _ sh q'
          rw [List.getElem?_map] at hxj
          cases ek : xs[j]? with
          | none => rw [ek] at hxj; cases hxj
          | some k =>
            rw [ek] at hxj
            cases hxj
            have hk := List.mem_of_getElem? ek
            obtain ⟨k1, k2⟩ := (hI11.chs.ch k hk).kc
            obtain ⟨_, _, c1, _, _⟩ := id k2.ex
            obtain ⟨r, hr', r0⟩ := kn k hk
            have g := dget_I (.inl (sh _ _ (s11 _ _ hd6))) k.2.1.n
            rw [hr'] at g
            have et : (if r < k.2.2 then r else k.2.2) = tkN L k.2 := by
              unfold tkN
              rw [hr']
              show _ = if k.2.2 < r then k.2.2 else r
              split <;> split <;> omega
            unfold sts
            unfold itl at q'
            rw [ek] at q' ⊢
            refine ⟨_, rfl, _, rfl, _, rfl, _, rfl, kcOf H11 k.1, _, _, _, rfl, rfl, SqT.of (sh _ _ c1), rfl, d, _, rfl, g, _, _, rfl, ?_⟩
            rw [et]
            exact ⟨sz 2 (by decide), fun p Hb sb nb hb' => q' p Hb sb hb'⟩
        rw [ml, tak_fll, fil_true] at eb
        obtain ⟨ys, hY, ey⟩ := hI11.taken s12 kn ⟨hD2, hb, by rw [eb, List.map_map]; rfl⟩
        have s612 := s11.trans s12
        refine ⟨_, rfl, _, rfl, _, rfl, _, rfl, D2, D, ys, rs, hv, b, n, rfl, hY, h0, b0, by omega, s612 _ _ (s06 _ _ hT), Rr.same s612, by rw [ey, hcT, hc0]; exact en, l40, fun D3 H13 zs s13 nD3 hZ ez3 => ?_⟩
        rw [ey, hcT, hc0, ez] at ez3
        have zn : zs = [] := List.map_eq_nil_iff.mp ez3
        have h3 := hZ.chs.at_
        rw [zn] at h3
        exact ⟨sz 0 (by decide), fun m4 H14 s14 n14 h14 => ⟨D3, m4, _, rfl, rfl, SqL.of (s14 _ _ h3), SqL.of h14, q H14⟩⟩
end
theorem all_mk {l : PySem.W.OpenLaw} {w : World} {K : PySem.W.Frag} {h : Heap} {mg : Str → Option Value} {fa f0 f1 f2 f3 f4 f5 f6 f7 f8 f9 f10 f11 f12 f13 f14 f15 f16 f17 f18 f19 f20 f21 f22 f23 f24 f25 f26 : Addr} (X : K.In h) (G : h.Ns mainGlobals mg) (hfa : mg "law" = some (.ref fa))
    {od0 an0 od1 an1 od2 an2 od3 an3 od4 an4 od5 an5 od6 an6 od7 an7 od8 an8 od9 an9 od10 an10 od11 an11 od12 an12 od13 an13 od14 an14 od15 an15 od16 an16 od17 an17 od18 an18 od19 an19 od20 an20 od21 an21 od22 an22 od23 an23 od24 an24 od25 an25 od26 an26 : Option Addr} {sl0 sl1 sl2 sl3 sl4 sl5 sl6 sl7 sl8 sl9 sl10 sl11 sl12 sl13 sl14 sl15 sl16 sl17 sl18 sl19 sl20 sl21 sl22 sl23 sl24 sl25 sl26 : Array (Option Value)} {oc0 kV0 dc0 pm0 cd0 ct0 oc1 kV1 dc1 pm1 cd1 ct1 oc2 kV2 dc2 pm2 cd2 ct2 oc3 kV3 dc3 pm3 cd3 ct3 oc4 kV4 dc4 pm4 cd4 ct4 oc5 kV5 dc5 pm5 cd5 ct5 oc6 kV6 dc6 pm6 cd6 ct6 oc7 kV7 dc7 pm7 cd7 ct7 oc8 kV8 dc8 pm8 cd8 ct8 oc9 kV9 dc9 pm9 cd9 ct9 oc10 kV10 dc10 pm10 cd10 ct10 oc11 kV11 dc11 pm11 cd11 ct11 oc12 kV12 dc12 pm12 cd12 ct12 oc13 kV13 dc13 pm13 cd13 ct13 oc14 kV14 dc14 pm14 cd14 ct14 oc15 kV15 dc15 pm15 cd15 ct15 oc16 kV16 dc16 pm16 cd16 ct16 oc17 kV17 dc17 pm17 cd17 ct17 oc18 kV18 dc18 pm18 cd18 ct18 oc19 kV19 dc19 pm19 cd19 ct19 oc20 kV20 dc20 pm20 cd20 ct20 oc21 kV21 dc21 pm21 cd21 ct21 oc22 kV22 dc22 pm22 cd22 ct22 oc23 kV23 dc23 pm23 cd23 ct23 oc24 kV24 dc24 pm24 cd24 ct24 oc25 kV25 dc25 pm25 cd25 ct25 oc26 kV26 dc26 pm26 cd26 ct26 : Value} {dt11 : Addr} {to11 : Obj} {tn11 : Nat}
    (a0 : PySem.W.nsIn K mainGlobals "is_whole" = some (some (.ref f0))) (l0 : K.lookup f0 = some ⟨oc0, od0, .func (PySem.W.fnOf "is_whole" "is_whole" (defArgs s_is_whole) (defBody s_is_whole) (defScope s_is_whole) .none kV0 dc0 pm0 an0 cd0 ct0), sl0⟩) (c0 : PySem.W.codeIn K cd0 "is_whole" = true) (k0 : PySem.W.keepIn K (.ref f0) = true)
    (a1 : PySem.W.nsIn K mainGlobals "common_divisor" = some (some (.ref f1))) (l1 : K.lookup f1 = some ⟨oc1, od1, .func (PySem.W.fnOf "common_divisor" "common_divisor" (defArgs s_common_divisor) (defBody s_common_divisor) (defScope s_common_divisor) .none kV1 dc1 pm1 an1 cd1 ct1), sl1⟩) (c1 : PySem.W.codeIn K cd1 "common_divisor" = true) (k1 : PySem.W.keepIn K (.ref f1) = true)
    (a2 : PySem.W.nsIn K mainGlobals "common_bottom" = some (some (.ref f2))) (l2 : K.lookup f2 = some ⟨oc2, od2, .func (PySem.W.fnOf "common_bottom" "common_bottom" (defArgs s_common_bottom) (defBody s_common_bottom) (defScope s_common_bottom) .none kV2 dc2 pm2 an2 cd2 ct2), sl2⟩) (c2 : PySem.W.codeIn K cd2 "common_bottom" = true) (k2 : PySem.W.keepIn K (.ref f2) = true)
    (a3 : PySem.W.nsIn K mainGlobals "place_key" = some (some (.ref f3))) (l3 : K.lookup f3 = some ⟨oc3, od3, .func (PySem.W.fnOf "place_key" "place_key" (defArgs s_place_key) (defBody s_place_key) (defScope s_place_key) .none kV3 dc3 pm3 an3 cd3 ct3), sl3⟩) (c3 : PySem.W.codeIn K cd3 "place_key" = true) (k3 : PySem.W.keepIn K (.ref f3) = true)
    (a4 : PySem.W.nsIn K mainGlobals "claims_in_order" = some (some (.ref f4))) (l4 : K.lookup f4 = some ⟨oc4, od4, .func (PySem.W.fnOf "claims_in_order" "claims_in_order" (defArgs s_claims_in_order) (defBody s_claims_in_order) (defScope s_claims_in_order) .none kV4 dc4 pm4 an4 cd4 ct4), sl4⟩) (c4 : PySem.W.codeIn K cd4 "claims_in_order" = true) (k4 : PySem.W.keepIn K (.ref f4) = true)
    (a5 : PySem.W.nsIn K mainGlobals "numbers_in_order" = some (some (.ref f5))) (l5 : K.lookup f5 = some ⟨oc5, od5, .func (PySem.W.fnOf "numbers_in_order" "numbers_in_order" (defArgs s_numbers_in_order) (defBody s_numbers_in_order) (defScope s_numbers_in_order) .none kV5 dc5 pm5 an5 cd5 ct5), sl5⟩) (c5 : PySem.W.codeIn K cd5 "numbers_in_order" = true) (k5 : PySem.W.keepIn K (.ref f5) = true)
    (a6 : PySem.W.nsIn K mainGlobals "numbers_worked" = some (some (.ref f6))) (l6 : K.lookup f6 = some ⟨oc6, od6, .func (PySem.W.fnOf "numbers_worked" "numbers_worked" (defArgs s_numbers_worked) (defBody s_numbers_worked) (defScope s_numbers_worked) .none kV6 dc6 pm6 an6 cd6 ct6), sl6⟩) (c6 : PySem.W.codeIn K cd6 "numbers_worked" = true) (k6 : PySem.W.keepIn K (.ref f6) = true)
    (a7 : PySem.W.nsIn K mainGlobals "chores_behind" = some (some (.ref f7))) (l7 : K.lookup f7 = some ⟨oc7, od7, .func (PySem.W.fnOf "chores_behind" "chores_behind" (defArgs s_chores_behind) (defBody s_chores_behind) (defScope s_chores_behind) .none kV7 dc7 pm7 an7 cd7 ct7), sl7⟩) (c7 : PySem.W.codeIn K cd7 "chores_behind" = true) (k7 : PySem.W.keepIn K (.ref f7) = true)
    (a8 : PySem.W.nsIn K mainGlobals "turn_done" = some (some (.ref f8))) (l8 : K.lookup f8 = some ⟨oc8, od8, .func (PySem.W.fnOf "turn_done" "turn_done" (defArgs s_turn_done) (defBody s_turn_done) (defScope s_turn_done) .none kV8 dc8 pm8 an8 cd8 ct8), sl8⟩) (c8 : PySem.W.codeIn K cd8 "turn_done" = true) (k8 : PySem.W.keepIn K (.ref f8) = true)
    (a9 : PySem.W.nsIn K mainGlobals "work_taken" = some (some (.ref f9))) (l9 : K.lookup f9 = some ⟨oc9, od9, .func (PySem.W.fnOf "work_taken" "work_taken" (defArgs s_work_taken) (defBody s_work_taken) (defScope s_work_taken) .none kV9 dc9 pm9 an9 cd9 ct9), sl9⟩) (c9 : PySem.W.codeIn K cd9 "work_taken" = true) (k9 : PySem.W.keepIn K (.ref f9) = true)
    (a10 : PySem.W.nsIn K mainGlobals "chores_taken" = some (some (.ref f10))) (l10 : K.lookup f10 = some ⟨oc10, od10, .func (PySem.W.fnOf "chores_taken" "chores_taken" (defArgs s_chores_taken) (defBody s_chores_taken) (defScope s_chores_taken) .none kV10 dc10 pm10 an10 cd10 ct10), sl10⟩) (c10 : PySem.W.codeIn K cd10 "chores_taken" = true) (k10 : PySem.W.keepIn K (.ref f10) = true)
    (a11 : PySem.W.nsIn K mainGlobals "run_of" = some (some (.ref f11))) (l11 : K.lookup f11 = some ⟨oc11, od11, .func (PySem.W.fnOf "run_of" "run_of" (defArgs s_run_of) (defBody s_run_of) (defScope s_run_of) (.ref dt11) kV11 dc11 pm11 an11 cd11 ct11), sl11⟩) (c11 : PySem.W.codeIn K cd11 "run_of" = true) (k11 : PySem.W.keepIn K (.ref f11) = true)
    (t11 : K.lookup dt11 = some to11) (u11 : to11.data = .seq #[.none] tn11)
    (a12 : PySem.W.nsIn K mainGlobals "are_numbers" = some (some (.ref f12))) (l12 : K.lookup f12 = some ⟨oc12, od12, .func (PySem.W.fnOf "are_numbers" "are_numbers" (defArgs s_are_numbers) (defBody s_are_numbers) (defScope s_are_numbers) .none kV12 dc12 pm12 an12 cd12 ct12), sl12⟩) (c12 : PySem.W.codeIn K cd12 "are_numbers" = true) (k12 : PySem.W.keepIn K (.ref f12) = true)
    (a13 : PySem.W.nsIn K mainGlobals "is_row_of" = some (some (.ref f13))) (l13 : K.lookup f13 = some ⟨oc13, od13, .func (PySem.W.fnOf "is_row_of" "is_row_of" (defArgs s_is_row_of) (defBody s_is_row_of) (defScope s_is_row_of) .none kV13 dc13 pm13 an13 cd13 ct13), sl13⟩) (c13 : PySem.W.codeIn K cd13 "is_row_of" = true) (k13 : PySem.W.keepIn K (.ref f13) = true)
    (a14 : PySem.W.nsIn K mainGlobals "walk_run" = some (some (.ref f14))) (l14 : K.lookup f14 = some ⟨oc14, od14, .func (PySem.W.fnOf "walk_run" "walk_run" (defArgs s_walk_run) (defBody s_walk_run) (defScope s_walk_run) .none kV14 dc14 pm14 an14 cd14 ct14), sl14⟩) (c14 : PySem.W.codeIn K cd14 "walk_run" = true) (k14 : PySem.W.keepIn K (.ref f14) = true)
    (a15 : PySem.W.nsIn K mainGlobals "_law_cell" = some (some (.ref f15))) (l15 : K.lookup f15 = some ⟨oc15, od15, .func (PySem.W.fnOf "_law_cell" "_law_cell" (defArgs s_law_cell) (defBody s_law_cell) (defScope s_law_cell) .none kV15 dc15 pm15 an15 cd15 ct15), sl15⟩) (c15 : PySem.W.codeIn K cd15 "_law_cell" = true) (k15 : PySem.W.keepIn K (.ref f15) = true)
    (a16 : PySem.W.nsIn K mainGlobals "_law_mix" = some (some (.ref f16))) (l16 : K.lookup f16 = some ⟨oc16, od16, .func (PySem.W.fnOf "_law_mix" "_law_mix" (defArgs s_law_mix) (defBody s_law_mix) (defScope s_law_mix) .none kV16 dc16 pm16 an16 cd16 ct16), sl16⟩) (c16 : PySem.W.codeIn K cd16 "_law_mix" = true) (k16 : PySem.W.keepIn K (.ref f16) = true)
    (a17 : PySem.W.nsIn K mainGlobals "_law_draw" = some (some (.ref f17))) (l17 : K.lookup f17 = some ⟨oc17, od17, .func (PySem.W.fnOf "_law_draw" "_law_draw" (defArgs s_law_draw) (defBody s_law_draw) (defScope s_law_draw) .none kV17 dc17 pm17 an17 cd17 ct17), sl17⟩) (c17 : PySem.W.codeIn K cd17 "_law_draw" = true) (k17 : PySem.W.keepIn K (.ref f17) = true)
    (a18 : PySem.W.nsIn K mainGlobals "_law_weight" = some (some (.ref f18))) (l18 : K.lookup f18 = some ⟨oc18, od18, .func (PySem.W.fnOf "_law_weight" "_law_weight" (defArgs s_law_weight) (defBody s_law_weight) (defScope s_law_weight) .none kV18 dc18 pm18 an18 cd18 ct18), sl18⟩) (c18 : PySem.W.codeIn K cd18 "_law_weight" = true) (k18 : PySem.W.keepIn K (.ref f18) = true)
    (a19 : PySem.W.nsIn K mainGlobals "_law_begin" = some (some (.ref f19))) (l19 : K.lookup f19 = some ⟨oc19, od19, .func (PySem.W.fnOf "_law_begin" "_law_begin" (defArgs s_law_begin) (defBody s_law_begin) (defScope s_law_begin) .none kV19 dc19 pm19 an19 cd19 ct19), sl19⟩) (c19 : PySem.W.codeIn K cd19 "_law_begin" = true) (k19 : PySem.W.keepIn K (.ref f19) = true)
    (a20 : PySem.W.nsIn K mainGlobals "_law_chore" = some (some (.ref f20))) (l20 : K.lookup f20 = some ⟨oc20, od20, .func (PySem.W.fnOf "_law_chore" "_law_chore" (defArgs s_law_chore) (defBody s_law_chore) (defScope s_law_chore) .none kV20 dc20 pm20 an20 cd20 ct20), sl20⟩) (c20 : PySem.W.codeIn K cd20 "_law_chore" = true) (k20 : PySem.W.keepIn K (.ref f20) = true)
    (a21 : PySem.W.nsIn K mainGlobals "_law_chores" = some (some (.ref f21))) (l21 : K.lookup f21 = some ⟨oc21, od21, .func (PySem.W.fnOf "_law_chores" "_law_chores" (defArgs s_law_chores) (defBody s_law_chores) (defScope s_law_chores) .none kV21 dc21 pm21 an21 cd21 ct21), sl21⟩) (c21 : PySem.W.codeIn K cd21 "_law_chores" = true) (k21 : PySem.W.keepIn K (.ref f21) = true)
    (a22 : PySem.W.nsIn K mainGlobals "_law_weighs" = some (some (.ref f22))) (l22 : K.lookup f22 = some ⟨oc22, od22, .func (PySem.W.fnOf "_law_weighs" "_law_weighs" (defArgs s_law_weighs) (defBody s_law_weighs) (defScope s_law_weighs) .none kV22 dc22 pm22 an22 cd22 ct22), sl22⟩) (c22 : PySem.W.codeIn K cd22 "_law_weighs" = true) (k22 : PySem.W.keepIn K (.ref f22) = true)
    (a23 : PySem.W.nsIn K mainGlobals "_law_is_ahead" = some (some (.ref f23))) (l23 : K.lookup f23 = some ⟨oc23, od23, .func (PySem.W.fnOf "_law_is_ahead" "_law_is_ahead" (defArgs s_law_is_ahead) (defBody s_law_is_ahead) (defScope s_law_is_ahead) .none kV23 dc23 pm23 an23 cd23 ct23), sl23⟩) (c23 : PySem.W.codeIn K cd23 "_law_is_ahead" = true) (k23 : PySem.W.keepIn K (.ref f23) = true)
    (a24 : PySem.W.nsIn K mainGlobals "_law_works" = some (some (.ref f24))) (l24 : K.lookup f24 = some ⟨oc24, od24, .func (PySem.W.fnOf "_law_works" "_law_works" (defArgs s_law_works) (defBody s_law_works) (defScope s_law_works) .none kV24 dc24 pm24 an24 cd24 ct24), sl24⟩) (c24 : PySem.W.codeIn K cd24 "_law_works" = true) (k24 : PySem.W.keepIn K (.ref f24) = true)
    (a25 : PySem.W.nsIn K mainGlobals "_law_row_right" = some (some (.ref f25))) (l25 : K.lookup f25 = some ⟨oc25, od25, .func (PySem.W.fnOf "_law_row_right" "_law_row_right" (defArgs s_law_row_right) (defBody s_law_row_right) (defScope s_law_row_right) .none kV25 dc25 pm25 an25 cd25 ct25), sl25⟩) (c25 : PySem.W.codeIn K cd25 "_law_row_right" = true) (k25 : PySem.W.keepIn K (.ref f25) = true)
    (a26 : PySem.W.nsIn K mainGlobals "law" = some (some (.ref f26))) (l26 : K.lookup f26 = some ⟨oc26, od26, .func (PySem.W.fnOf "law" "law" (defArgs s_law) (defBody s_law) (defScope s_law) .none kV26 dc26 pm26 an26 cd26 ct26), sl26⟩) (c26 : PySem.W.codeIn K cd26 "law" = true) (k26 : PySem.W.keepIn K (.ref f26) = true)
    (z_all : PySem.W.nsIn K mainGlobals "all" = some none)
    (z_bool : PySem.W.nsIn K mainGlobals "bool" = some none)
    (z_enumerate : PySem.W.nsIn K mainGlobals "enumerate" = some none)
    (z_int : PySem.W.nsIn K mainGlobals "int" = some none)
    (z_isinstance : PySem.W.nsIn K mainGlobals "isinstance" = some none)
    (z_len : PySem.W.nsIn K mainGlobals "len" = some none)
    (z_list : PySem.W.nsIn K mainGlobals "list" = some none)
    (z_max : PySem.W.nsIn K mainGlobals "max" = some none)
    (z_min : PySem.W.nsIn K mainGlobals "min" = some none)
    (z_range : PySem.W.nsIn K mainGlobals "range" = some none)
    (z_sorted : PySem.W.nsIn K mainGlobals "sorted" = some none)
    (z_sum : PySem.W.nsIn K mainGlobals "sum" = some none)
    (z_tuple : PySem.W.nsIn K mainGlobals "tuple" = some none)
    (z_zip : PySem.W.nsIn K mainGlobals "zip" = some none)
    (q_int_int : PySem.W.kitOne K (.type "int") (.type "int") = some true)
    (q_int_bool : PySem.W.kitOne K (.type "int") (.type "bool") = some false)
    (q_list_list : PySem.W.kitOne K (.type "list") (.type "list") = some true)
    (q_tuple_tuple : PySem.W.kitOne K (.type "tuple") (.type "tuple") = some true)
    (tn : tabNe K cd4 cd26 = true)
    : ∃ (fd fg fg' : FuncData) (ag ag' : Addr) (og og' : Obj), (∀ (s : Shared) (v : Value), BindsTo s fd ⟨[v], []⟩ [("_law_script", v)]) ∧ mg "claims_in_order" = some (.ref ag) ∧ K.lookup ag = some og ∧ og.data = .func fg ∧ mg "law" = some (.ref ag') ∧ K.lookup ag' = some og' ∧ og'.data = .func fg' ∧ tabNe K fg.code fg'.code = true ∧ ∀ (tT tL : Addr) (base : Heap), K.In base → base.Ns mainGlobals mg → Site K mg base fg.code tT → Site K mg base fg'.code tL → FnOk l.prog w K mg base CX0 11 fa fd ["_law_script"] (spLaw K tT tL) := by
  have e := hfa.symm.trans (PySem.W.mg_of X G a26)
  cases e
  have T : Txt K mg := ⟨PySem.W.mg_none_of X G z_all, PySem.W.mg_none_of X G z_bool, PySem.W.mg_none_of X G z_enumerate, PySem.W.mg_none_of X G z_int, PySem.W.mg_none_of X G z_isinstance, PySem.W.mg_none_of X G z_len, PySem.W.mg_none_of X G z_list, PySem.W.mg_none_of X G z_max, PySem.W.mg_none_of X G z_min, PySem.W.mg_none_of X G z_range, PySem.W.mg_none_of X G z_sorted, PySem.W.mg_none_of X G z_sum, PySem.W.mg_none_of X G z_tuple, PySem.W.mg_none_of X G z_zip, q_int_int, q_int_bool, q_list_list, q_tuple_tuple⟩
  have F0 := fun_mk (st := s_is_whole) l0 c0 k0
  have b0 := F0.binds (ps := ["thing", "low", "high"]) fun _ _ _ _ _ _ us hl => by obtain ⟨_, _, _, rfl⟩ := ul3 hl; rfl
  have D_is_whole : Dfn K mg "is_whole" s_is_whole ["thing", "low", "high"] _ _ := ⟨F0, b0, PySem.W.mg_of X G a0⟩
  have F1 := fun_mk (st := s_common_divisor) l1 c1 k1
  have b1 := F1.binds (ps := ["one", "other"]) fun _ _ _ _ _ _ us hl => by obtain ⟨_, _, rfl⟩ := ul2 hl; rfl
  have D_common_divisor : Dfn K mg "common_divisor" s_common_divisor ["one", "other"] _ _ := ⟨F1, b1, PySem.W.mg_of X G a1⟩
  have F2 := fun_mk (st := s_common_bottom) l2 c2 k2
  have b2 := F2.binds (ps := ["claims"]) fun _ _ _ _ _ _ us hl => by obtain ⟨_, rfl⟩ := ul1 hl; rfl
  have D_common_bottom : Dfn K mg "common_bottom" s_common_bottom ["claims"] _ _ := ⟨F2, b2, PySem.W.mg_of X G a2⟩
  have F3 := fun_mk (st := s_place_key) l3 c3 k3
  have b3 := F3.binds (ps := ["claim", "turn", "common"]) fun _ _ _ _ _ _ us hl => by obtain ⟨_, _, _, rfl⟩ := ul3 hl; rfl
  have D_place_key : Dfn K mg "place_key" s_place_key ["claim", "turn", "common"] _ _ := ⟨F3, b3, PySem.W.mg_of X G a3⟩
  have F4 := fun_mk (st := s_claims_in_order) l4 c4 k4
  have b4 := F4.binds (ps := ["claims", "turn"]) fun _ _ _ _ _ _ us hl => by obtain ⟨_, _, rfl⟩ := ul2 hl; rfl
  have D_claims_in_order : DfnC K mg "claims_in_order" s_claims_in_order ["claims", "turn"] _ _ _ := ⟨func_mk (st := s_claims_in_order) l4 c4, k4, b4, PySem.W.mg_of X G a4⟩
  have F5 := fun_mk (st := s_numbers_in_order) l5 c5 k5
  have b5 := F5.binds (ps := ["claims", "turn"]) fun _ _ _ _ _ _ us hl => by obtain ⟨_, _, rfl⟩ := ul2 hl; rfl
  have D_numbers_in_order : Dfn K mg "numbers_in_order" s_numbers_in_order ["claims", "turn"] _ _ := ⟨F5, b5, PySem.W.mg_of X G a5⟩
  have F6 := fun_mk (st := s_numbers_worked) l6 c6 k6
  have b6 := F6.binds (ps := ["chores", "hands", "turn"]) fun _ _ _ _ _ _ us hl => by obtain ⟨_, _, _, rfl⟩ := ul3 hl; rfl
  have D_numbers_worked : Dfn K mg "numbers_worked" s_numbers_worked ["chores", "hands", "turn"] _ _ := ⟨F6, b6, PySem.W.mg_of X G a6⟩
  have F7 := fun_mk (st := s_chores_behind) l7 c7 k7
  have b7 := F7.binds (ps := ["chores", "numbers"]) fun _ _ _ _ _ _ us hl => by obtain ⟨_, _, rfl⟩ := ul2 hl; rfl
  have D_chores_behind : Dfn K mg "chores_behind" s_chores_behind ["chores", "numbers"] _ _ := ⟨F7, b7, PySem.W.mg_of X G a7⟩
  have F8 := fun_mk (st := s_turn_done) l8 c8 k8
  have b8 := F8.binds (ps := ["chores", "hands", "turn"]) fun _ _ _ _ _ _ us hl => by obtain ⟨_, _, _, rfl⟩ := ul3 hl; rfl
  have D_turn_done : Dfn K mg "turn_done" s_turn_done ["chores", "hands", "turn"] _ _ := ⟨F8, b8, PySem.W.mg_of X G a8⟩
  have F9 := fun_mk (st := s_work_taken) l9 c9 k9
  have b9 := F9.binds (ps := ["chore", "real"]) fun _ _ _ _ _ _ us hl => by obtain ⟨_, _, rfl⟩ := ul2 hl; rfl
  have D_work_taken : Dfn K mg "work_taken" s_work_taken ["chore", "real"] _ _ := ⟨F9, b9, PySem.W.mg_of X G a9⟩
  have F10 := fun_mk (st := s_chores_taken) l10 c10 k10
  have b10 := F10.binds (ps := ["chores", "real"]) fun _ _ _ _ _ _ us hl => by obtain ⟨_, _, rfl⟩ := ul2 hl; rfl
  have D_chores_taken : Dfn K mg "chores_taken" s_chores_taken ["chores", "real"] _ _ := ⟨F10, b10, PySem.W.mg_of X G a10⟩
  have F11 := funD_mk (st := s_run_of) l11 c11 k11 t11 u11
  have b11 := F11.binds (ps := ["chores", "hands", "begin", "real"]) fun _ _ _ _ _ _ _ us hl => by obtain ⟨_, _, _, _, rfl⟩ := ul4 hl; exact ⟨_, rfl, rfl⟩
  have bd11 := F11.bindsD (ps := ["chores", "hands", "begin", "real"]) fun _ _ _ _ _ _ _ us hl => by obtain ⟨_, _, _, rfl⟩ := ul3 (show us.length = 3 by rw [List.length_append] at hl; exact Nat.succ.inj hl); exact ⟨_, rfl, rfl⟩
  have D_run_of : DfnD K mg "run_of" s_run_of ["chores", "hands", "begin", "real"] _ _ := ⟨F11, b11, bd11, PySem.W.mg_of X G a11⟩
  have F12 := fun_mk (st := s_are_numbers) l12 c12 k12
  have b12 := F12.binds (ps := ["thing", "numbers"]) fun _ _ _ _ _ _ us hl => by obtain ⟨_, _, rfl⟩ := ul2 hl; rfl
  have D_are_numbers : Dfn K mg "are_numbers" s_are_numbers ["thing", "numbers"] _ _ := ⟨F12, b12, PySem.W.mg_of X G a12⟩
  have F13 := fun_mk (st := s_is_row_of) l13 c13 k13
  have b13 := F13.binds (ps := ["thing", "turn", "numbers"]) fun _ _ _ _ _ _ us hl => by obtain ⟨_, _, _, rfl⟩ := ul3 hl; rfl
  have D_is_row_of : Dfn K mg "is_row_of" s_is_row_of ["thing", "turn", "numbers"] _ _ := ⟨F13, b13, PySem.W.mg_of X G a13⟩
  have F14 := fun_mk (st := s_walk_run) l14 c14 k14
  have b14 := F14.binds (ps := ["chores", "hands", "begin", "rows"]) fun _ _ _ _ _ _ us hl => by obtain ⟨_, _, _, _, rfl⟩ := ul4 hl; rfl
  have D_walk_run : Dfn K mg "walk_run" s_walk_run ["chores", "hands", "begin", "rows"] _ _ := ⟨F14, b14, PySem.W.mg_of X G a14⟩
  have F15 := fun_mk (st := s_law_cell) l15 c15 k15
  have b15 := F15.binds (ps := ["_law_script", "_law_k"]) fun _ _ _ _ _ _ us hl => by obtain ⟨_, _, rfl⟩ := ul2 hl; rfl
  have D_law_cell : Dfn K mg "_law_cell" s_law_cell ["_law_script", "_law_k"] _ _ := ⟨F15, b15, PySem.W.mg_of X G a15⟩
  have F16 := fun_mk (st := s_law_mix) l16 c16 k16
  have b16 := F16.binds (ps := ["_law_cell_here", "_law_k"]) fun _ _ _ _ _ _ us hl => by obtain ⟨_, _, rfl⟩ := ul2 hl; rfl
  have D_law_mix : Dfn K mg "_law_mix" s_law_mix ["_law_cell_here", "_law_k"] _ _ := ⟨F16, b16, PySem.W.mg_of X G a16⟩
  have F17 := fun_mk (st := s_law_draw) l17 c17 k17
  have b17 := F17.binds (ps := ["_law_cell_here", "_law_k"]) fun _ _ _ _ _ _ us hl => by obtain ⟨_, _, rfl⟩ := ul2 hl; rfl
  have D_law_draw : Dfn K mg "_law_draw" s_law_draw ["_law_cell_here", "_law_k"] _ _ := ⟨F17, b17, PySem.W.mg_of X G a17⟩
  have F18 := fun_mk (st := s_law_weight) l18 c18 k18
  have b18 := F18.binds (ps := ["_law_number"]) fun _ _ _ _ _ _ us hl => by obtain ⟨_, rfl⟩ := ul1 hl; rfl
  have D_law_weight : Dfn K mg "_law_weight" s_law_weight ["_law_number"] _ _ := ⟨F18, b18, PySem.W.mg_of X G a18⟩
  have F19 := fun_mk (st := s_law_begin) l19 c19 k19
  have b19 := F19.binds (ps := ["_law_script"]) fun _ _ _ _ _ _ us hl => by obtain ⟨_, rfl⟩ := ul1 hl; rfl
  have D_law_begin : Dfn K mg "_law_begin" s_law_begin ["_law_script"] _ _ := ⟨F19, b19, PySem.W.mg_of X G a19⟩
  have F20 := fun_mk (st := s_law_chore) l20 c20 k20
  have b20 := F20.binds (ps := ["_law_cell_here", "_law_number", "_law_begin_here", "_law_most"]) fun _ _ _ _ _ _ us hl => by obtain ⟨_, _, _, _, rfl⟩ := ul4 hl; rfl
  have D_law_chore : Dfn K mg "_law_chore" s_law_chore ["_law_cell_here", "_law_number", "_law_begin_here", "_law_most"] _ _ := ⟨F20, b20, PySem.W.mg_of X G a20⟩
  have F21 := fun_mk (st := s_law_chores) l21 c21 k21
  have b21 := F21.binds (ps := ["_law_script", "_law_start", "_law_begin_here"]) fun _ _ _ _ _ _ us hl => by obtain ⟨_, _, _, rfl⟩ := ul3 hl; rfl
  have D_law_chores : Dfn K mg "_law_chores" s_law_chores ["_law_script", "_law_start", "_law_begin_here"] _ _ := ⟨F21, b21, PySem.W.mg_of X G a21⟩
  have F22 := fun_mk (st := s_law_weighs) l22 c22 k22
  have b22 := F22.binds (ps := ["_law_claim", "_law_turn"]) fun _ _ _ _ _ _ us hl => by obtain ⟨_, _, rfl⟩ := ul2 hl; rfl
  have D_law_weighs : Dfn K mg "_law_weighs" s_law_weighs ["_law_claim", "_law_turn"] _ _ := ⟨F22, b22, PySem.W.mg_of X G a22⟩
  have F23 := fun_mk (st := s_law_is_ahead) l23 c23 k23
  have b23 := F23.binds (ps := ["_law_one", "_law_other", "_law_turn"]) fun _ _ _ _ _ _ us hl => by obtain ⟨_, _, _, rfl⟩ := ul3 hl; rfl
  have D_law_is_ahead : Dfn K mg "_law_is_ahead" s_law_is_ahead ["_law_one", "_law_other", "_law_turn"] _ _ := ⟨F23, b23, PySem.W.mg_of X G a23⟩
  have F24 := fun_mk (st := s_law_works) l24 c24 k24
  have b24 := F24.binds (ps := ["_law_script", "_law_chores_here"]) fun _ _ _ _ _ _ us hl => by obtain ⟨_, _, rfl⟩ := ul2 hl; rfl
  have D_law_works : Dfn K mg "_law_works" s_law_works ["_law_script", "_law_chores_here"] _ _ := ⟨F24, b24, PySem.W.mg_of X G a24⟩
  have F25 := fun_mk (st := s_law_row_right) l25 c25 k25
  have b25 := F25.binds (ps := ["_law_claims", "_law_left", "_law_hands", "_law_turn", "_law_numbers"]) fun _ _ _ _ _ _ us hl => by obtain ⟨_, _, _, _, _, rfl⟩ := ul5 hl; rfl
  have D_law_row_right : Dfn K mg "_law_row_right" s_law_row_right ["_law_claims", "_law_left", "_law_hands", "_law_turn", "_law_numbers"] _ _ := ⟨F25, b25, PySem.W.mg_of X G a25⟩
  have F26 := fun_mk (st := s_law) l26 c26 k26
  have b26 := F26.binds (ps := ["_law_script"]) fun _ _ _ _ _ _ us hl => by obtain ⟨_, rfl⟩ := ul1 hl; rfl
  have D_law : DfnC K mg "law" s_law ["_law_script"] _ _ _ := ⟨func_mk (st := s_law) l26 c26, k26, b26, PySem.W.mg_of X G a26⟩
  refine ⟨PySem.W.fnOf "law" "law" (defArgs s_law) (defBody s_law) (defScope s_law) .none kV26 dc26 pm26 an26 cd26 ct26, PySem.W.fnOf "claims_in_order" "claims_in_order" (defArgs s_claims_in_order) (defBody s_claims_in_order) (defScope s_claims_in_order) .none kV4 dc4 pm4 an4 cd4 ct4, PySem.W.fnOf "law" "law" (defArgs s_law) (defBody s_law) (defScope s_law) .none kV26 dc26 pm26 an26 cd26 ct26, f4, fa, ⟨oc4, od4, .func (PySem.W.fnOf "claims_in_order" "claims_in_order" (defArgs s_claims_in_order) (defBody s_claims_in_order) (defScope s_claims_in_order) .none kV4 dc4 pm4 an4 cd4 ct4), sl4⟩, ⟨oc26, od26, .func (PySem.W.fnOf "law" "law" (defArgs s_law) (defBody s_law) (defScope s_law) .none kV26 dc26 pm26 an26 cd26 ct26), sl26⟩, fun s v => .of_eq rfl, PySem.W.mg_of X G a4, l4, rfl, PySem.W.mg_of X G a26, l26, rfl, tn, fun tT tL base _ _ SI SL => ?_⟩
  have C_chores_behind := ok_chores_behind (P := l.prog) (w := w) (base := base) D_chores_behind T
  have C_common_divisor := ok_common_divisor (P := l.prog) (w := w) (base := base) D_common_divisor T
  have C_common_bottom := ok_common_bottom (P := l.prog) (w := w) (base := base) D_common_bottom T C_common_divisor
  have C_place_key := ok_place_key (P := l.prog) (w := w) (base := base) D_place_key T
  have C_claims_in_order := ok_claims_in_order (P := l.prog) (w := w) (base := base) (tT := tT) D_claims_in_order SI T C_common_bottom C_place_key
  have C_numbers_in_order := ok_numbers_in_order (P := l.prog) (w := w) (base := base) D_numbers_in_order T C_claims_in_order
  have C_numbers_worked := ok_numbers_worked (P := l.prog) (w := w) (base := base) D_numbers_worked T C_numbers_in_order
  have C_turn_done := ok_turn_done (P := l.prog) (w := w) (base := base) D_turn_done T C_numbers_worked C_chores_behind
  have C_is_whole := ok_is_whole (P := l.prog) (w := w) (base := base) D_is_whole T
  have C_work_taken := ok_work_taken (P := l.prog) (w := w) (base := base) D_work_taken T C_is_whole
  have C_chores_taken := ok_chores_taken (P := l.prog) (w := w) (base := base) D_chores_taken T C_work_taken
  have C_run_of := ok_run_of (P := l.prog) (w := w) (base := base) D_run_of T C_chores_behind C_turn_done C_chores_taken
  have C_are_numbers := ok_are_numbers (P := l.prog) (w := w) (base := base) D_are_numbers T C_is_whole
  have C_is_row_of := ok_is_row_of (P := l.prog) (w := w) (base := base) D_is_row_of T C_is_whole C_are_numbers
  have C_walk_run := ok_walk_run (P := l.prog) (w := w) (base := base) D_walk_run T C_chores_behind C_turn_done C_is_row_of
  have C_law_cell := ok_law_cell (P := l.prog) (w := w) (base := base) D_law_cell T
  have C_law_mix := ok_law_mix (P := l.prog) (w := w) (base := base) D_law_mix T
  have C_law_draw := ok_law_draw (P := l.prog) (w := w) (base := base) D_law_draw T C_law_mix
  have C_law_begin := ok_law_begin (P := l.prog) (w := w) (base := base) D_law_begin T C_law_cell C_law_draw
  have C_law_weight := ok_law_weight (P := l.prog) (w := w) (base := base) D_law_weight T
  have C_law_chore := ok_law_chore (P := l.prog) (w := w) (base := base) D_law_chore T C_law_draw C_law_weight
  have C_law_chores := ok_law_chores (P := l.prog) (w := w) (base := base) D_law_chores T C_law_cell C_law_draw C_law_chore
  have C_law_works := ok_law_works (P := l.prog) (w := w) (base := base) D_law_works T C_law_cell C_law_mix C_law_draw
  have C_law_weighs := ok_law_weighs (P := l.prog) (w := w) (base := base) D_law_weighs T
  have C_law_is_ahead := ok_law_is_ahead (P := l.prog) (w := w) (base := base) D_law_is_ahead T C_law_weighs
  have C_law_row_right := ok_law_row_right (P := l.prog) (w := w) (base := base) D_law_row_right T C_law_is_ahead
  exact ok_law D_law SL T C_run_of C_walk_run C_law_cell C_law_draw C_law_begin C_law_chores C_law_works C_law_row_right
theorem walk {l : PySem.W.OpenLaw} {q : Program} {loose : List Str} {XP : (Str → Option Value) → Heap → Prop} {YP : World → Heap → Prop} {d : DefRec} {K : Params → PySem.W.Frag} (hn : l.most = some 63) (hdf : d.params.defaults = [])
    (hY : ∀ (w : World) (h : Heap), YP w h → (K w.params).In h) (hK : ∀ p, tabless (K p) = true) (hrec : ∃ dr, (PyProof.Rows.recsOf q).find? (fun e => e.name == ("claims_in_order" : Str)) = some dr) (hrec' : ∃ dr, (PyProof.Rows.recsOf q).find? (fun e => e.name == ("law" : Str)) = some dr)
    (F : ∀ (w : World) (mg : Str → Option Value) (fa : Addr) (h : Heap), (K w.params).In h → h.Ns mainGlobals mg → mg d.name = some (.ref fa) →
      ∃ (fd fg fg' : FuncData) (ag ag' : Addr) (og og' : Obj), (∀ (s : Shared) (u : Value), BindsTo s fd ⟨[u], []⟩ [("_law_script", u)]) ∧ mg "claims_in_order" = some (.ref ag) ∧ (K w.params).lookup ag = some og ∧ og.data = .func fg ∧ mg "law" = some (.ref ag') ∧ (K w.params).lookup ag' = some og' ∧ og'.data = .func fg' ∧ tabNe (K w.params) fg.code fg'.code = true ∧
        ∀ (tT tL : Addr) (base : Heap), (K w.params).In base → base.Ns mainGlobals mg → Site (K w.params) mg base fg.code tT → Site (K w.params) mg base fg'.code tL → FnOk l.prog w (K w.params) mg base CX0 11 fa fd ["_law_script"] (spLaw (K w.params) tT tL)) :
    PySem.W.WalkO q loose XP YP l.row.toRowW d [] (fun f vs => PySem.call f vs) :=
  L2.walk_of2 (n := 63) (k := 11) (x := "_law_script") (g := "claims_in_order") (g' := "law") (lp := lamPos) (q := lamQ) (lp' := lam2Pos) (q' := lam2Q) (sp := fun K tT tL => spLaw K tT tL) hn (by decide) hdf ⟨rfl, by decide, by decide, rfl⟩ hY hK hrec hrec' F (fun _ _ _ _ a ns hl hT hT' hS => ⟨a, ns, rfl, hS, hl, hT, hT', fun _ => rfl⟩)
end K45


set_option Elab.async false
set_option linter.all false
set_option maxRecDepth 100000
set_option maxHeartbeats 4000000
open PySem PySem.W PyProof.Rows
set_option maxRecDepth 100000 in
set_option maxHeartbeats 0 in
theorem PySem.Challenge.cw_greywait_k45_whole_no_hand_is_idle_holds : PySem.Challenge.rw_greywait_k45_whole_no_hand_is_idle.Holds := by
  w_on; o_law; k_head; (case hw => w_witness2)
  k_fill
  refine K45.walk (l := PySem.Challenge.rw_greywait_k45_whole_no_hand_is_idle) rfl rfl (fun w h Y => PySem.W.km_in_of Y) (fun _ => by kernel_rfl) ⟨_, rfl⟩ ⟨_, rfl⟩ ?F
  case F =>
    intro w mg fa h KX G hmg
    refine' K45.all_mk (l := PySem.Challenge.rw_greywait_k45_whole_no_hand_is_idle) (w := w) KX G hmg ?a0 ?l0 ?c0 ?k0 ?a1 ?l1 ?c1 ?k1 ?a2 ?l2 ?c2 ?k2 ?a3 ?l3 ?c3 ?k3 ?a4 ?l4 ?c4 ?k4 ?a5 ?l5 ?c5 ?k5 ?a6 ?l6 ?c6 ?k6 ?a7 ?l7 ?c7 ?k7 ?a8 ?l8 ?c8 ?k8 ?a9 ?l9 ?c9 ?k9 ?a10 ?l10 ?c10 ?k10 ?a11 ?l11 ?c11 ?k11 ?t11 ?u11 ?a12 ?l12 ?c12 ?k12 ?a13 ?l13 ?c13 ?k13 ?a14 ?l14 ?c14 ?k14 ?a15 ?l15 ?c15 ?k15 ?a16 ?l16 ?c16 ?k16 ?a17 ?l17 ?c17 ?k17 ?a18 ?l18 ?c18 ?k18 ?a19 ?l19 ?c19 ?k19 ?a20 ?l20 ?c20 ?k20 ?a21 ?l21 ?c21 ?k21 ?a22 ?l22 ?c22 ?k22 ?a23 ?l23 ?c23 ?k23 ?a24 ?l24 ?c24 ?k24 ?a25 ?l25 ?c25 ?k25 ?a26 ?l26 ?c26 ?k26 ?z_all ?z_bool ?z_enumerate ?z_int ?z_isinstance ?z_len ?z_list ?z_max ?z_min ?z_range ?z_sorted ?z_sum ?z_tuple ?z_zip ?q_int_int ?q_int_bool ?q_list_list ?q_tuple_tuple ?tn
    (case a0 => k_is)
    (case l0 => k_is)
    (case c0 => k_is)
    (case k0 => k_is)
    (case a1 => k_is)
    (case l1 => k_is)
    (case c1 => k_is)
    (case k1 => k_is)
    (case a2 => k_is)
    (case l2 => k_is)
    (case c2 => k_is)
    (case k2 => k_is)
    (case a3 => k_is)
    (case l3 => k_is)
    (case c3 => k_is)
    (case k3 => k_is)
    (case a4 => k_is)
    (case l4 => k_is)
    (case c4 => k_is)
    (case k4 => k_is)
    (case a5 => k_is)
    (case l5 => k_is)
    (case c5 => k_is)
    (case k5 => k_is)
    (case a6 => k_is)
    (case l6 => k_is)
    (case c6 => k_is)
    (case k6 => k_is)
    (case a7 => k_is)
    (case l7 => k_is)
    (case c7 => k_is)
    (case k7 => k_is)
    (case a8 => k_is)
    (case l8 => k_is)
    (case c8 => k_is)
    (case k8 => k_is)
    (case a9 => k_is)
    (case l9 => k_is)
    (case c9 => k_is)
    (case k9 => k_is)
    (case a10 => k_is)
    (case l10 => k_is)
    (case c10 => k_is)
    (case k10 => k_is)
    (case a11 => k_is)
    (case l11 => k_is)
    (case c11 => k_is)
    (case k11 => k_is)
    (case t11 => k_is)
    (case u11 => rfl)
    (case a12 => k_is)
    (case l12 => k_is)
    (case c12 => k_is)
    (case k12 => k_is)
    (case a13 => k_is)
    (case l13 => k_is)
    (case c13 => k_is)
    (case k13 => k_is)
    (case a14 => k_is)
    (case l14 => k_is)
    (case c14 => k_is)
    (case k14 => k_is)
    (case a15 => k_is)
    (case l15 => k_is)
    (case c15 => k_is)
    (case k15 => k_is)
    (case a16 => k_is)
    (case l16 => k_is)
    (case c16 => k_is)
    (case k16 => k_is)
    (case a17 => k_is)
    (case l17 => k_is)
    (case c17 => k_is)
    (case k17 => k_is)
    (case a18 => k_is)
    (case l18 => k_is)
    (case c18 => k_is)
    (case k18 => k_is)
    (case a19 => k_is)
    (case l19 => k_is)
    (case c19 => k_is)
    (case k19 => k_is)
    (case a20 => k_is)
    (case l20 => k_is)
    (case c20 => k_is)
    (case k20 => k_is)
    (case a21 => k_is)
    (case l21 => k_is)
    (case c21 => k_is)
    (case k21 => k_is)
    (case a22 => k_is)
    (case l22 => k_is)
    (case c22 => k_is)
    (case k22 => k_is)
    (case a23 => k_is)
    (case l23 => k_is)
    (case c23 => k_is)
    (case k23 => k_is)
    (case a24 => k_is)
    (case l24 => k_is)
    (case c24 => k_is)
    (case k24 => k_is)
    (case a25 => k_is)
    (case l25 => k_is)
    (case c25 => k_is)
    (case k25 => k_is)
    (case a26 => k_is)
    (case l26 => k_is)
    (case c26 => k_is)
    (case k26 => k_is)
    (case z_all => k_is)
    (case z_bool => k_is)
    (case z_enumerate => k_is)
    (case z_int => k_is)
    (case z_isinstance => k_is)
    (case z_len => k_is)
    (case z_list => k_is)
    (case z_max => k_is)
    (case z_min => k_is)
    (case z_range => k_is)
    (case z_sorted => k_is)
    (case z_sum => k_is)
    (case z_tuple => k_is)
    (case z_zip => k_is)
    (case tn => kernel_rfl)
    (case q_int_int => kit_is)
    (case q_int_bool => kit_is)
    (case q_list_list => kit_is)
    (case q_tuple_tuple => kit_is)

