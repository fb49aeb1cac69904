import PyProof.Rows.All
import Wide.All
import OpenK.AllK
import Wide.FinOn
import PyProof.EqAt
import PyProof.EqKinds
import PyProof.TupleCall
import KE.KIntText
import PyProof.Rows.ReprOcc
import PyProof.ExcInit
import PyProof.ExcClass2
import PyProof.InstStoreFacts
import PyProof.NsDelKeeps
import KE.KSortTup
import KE.KLam
import PyProof.DictValues
import PyProof.ReprRoads
import KE.KDictList
import PySem.Challenge.RW_greywait_k61_latest_turns
-- CHANGE: your row's module here, as the last of these rows
set_option Elab.async false
set_option linter.all false
set_option maxRecDepth 100000
/-! THE HAND LAYER, for ints, bools, texts, own classes, LISTS and tuples (index, slices, in, append, pop ..), calls, loops. Paste it whole ahead of your own text; what your proof does not reach may be deleted. -/
namespace L2
open PySem PySem.Spec PyProof.Rows

abbrev Key := Sum Int Str
def keyIs : Key → Value → Bool
  | .inl k, v => Value.isInt k v
  | .inr x, v => Value.isStrOf x v
def keyH (w : World) : Key → Int
  | .inl k => hashInt k
  | .inr x => hashStr w x
theorem keyIs_shape : ∀ {k : Key} {v : Value}, keyIs k v = true → (∃ i t, k = Sum.inl i ∧ v = Value.int i t) ∨ (∃ x t, k = Sum.inr x ∧ v = Value.str x t)
  | .inl i, v, h => by
    obtain ⟨t, e⟩ := Value.isInt_shape (k := i) (v := v) h
    exact .inl ⟨i, t, rfl, e⟩
  | .inr x, v, h => by
    obtain ⟨t, e⟩ := Value.isStrOf_shape (x := x) (v := v) h
    exact .inr ⟨x, t, rfl, e⟩
theorem keyIs_int (i : Int) (t : Tok) : keyIs (.inl i) (.int i t) = true := by simp [keyIs, Value.isInt]
theorem keyIs_str (x : Str) (t : Tok) : keyIs (.inr x) (.str x t) = true := by simp [keyIs, Value.isStrOf]
theorem key_ll (a b : Int) : decide ((Sum.inl a : Key) = Sum.inl b) = (a == b) := by
  by_cases e : a = b
  · subst e; simp
  · have h : ¬ (Sum.inl a : Key) = Sum.inl b := fun q => e (Sum.inl.inj q)
    rw [decide_eq_false h]
    exact (beq_eq_false_iff_ne.mpr e).symm
theorem key_rr (a b : Str) : decide ((Sum.inr a : Key) = Sum.inr b) = decide (a = b) := by
  by_cases e : a = b
  · subst e; simp
  · have h : ¬ (Sum.inr a : Key) = Sum.inr b := fun q => e (Sum.inr.inj q)
    rw [decide_eq_false h, decide_eq_false e]
theorem key_lr (a : Int) (b : Str) : decide ((Sum.inl a : Key) = Sum.inr b) = false := decide_eq_false (fun q => nomatch q)
theorem key_rl (a : Str) (b : Int) : decide ((Sum.inr a : Key) = Sum.inl b) = false := decide_eq_false (fun q => nomatch q)

def mixKind (prog : Program) (w : World) : PySem.KeyKind prog w Key where
  is := keyIs
  hash := keyH w
  inj := fun v a b ha hb => by
    rcases keyIs_shape ha with ⟨i, t, rfl, rfl⟩ | ⟨x, t, rfl, rfl⟩
    · rcases keyIs_shape hb with ⟨j, u, rfl, e⟩ | ⟨y, u, rfl, e⟩
      · injection e with e1 _; rw [e1]
      · exact nomatch e
    · rcases keyIs_shape hb with ⟨j, u, rfl, e⟩ | ⟨y, u, rfl, e⟩
      · exact nomatch e
      · injection e with e1 _; rw [e1]
  byValue := fun k v h => by
    rcases keyIs_shape h with ⟨i, t, rfl, rfl⟩ | ⟨x, t, rfl, rfl⟩ <;> rfl
  pyHash := fun hv h => by
    rcases keyIs_shape hv with ⟨i, t, rfl, rfl⟩ | ⟨x, t, rfl, rfl⟩
    · exact wpAny_pyHash_int h
    · exact wpAny_pyHash_str h
  eqBool := fun hu hv h => by
    rcases keyIs_shape hu with ⟨i, t, rfl, rfl⟩ | ⟨x, t, rfl, rfl⟩
    · rcases keyIs_shape hv with ⟨j, u, rfl, rfl⟩ | ⟨y, u, rfl, rfl⟩
      · rw [key_ll] at h; exact wpAny_eqBool_int h
      · rw [key_lr] at h; exact SeqAt.EqAt.int_str i t y u _ _ _ _ h
    · rcases keyIs_shape hv with ⟨j, u, rfl, rfl⟩ | ⟨y, u, rfl, rfl⟩
      · rw [key_rl] at h; exact SeqAt.EqAt.str_int x t j u _ _ _ _ h
      · rw [key_rr] at h; exact wpAny_eqBool_str h
  «strs» := fun k x t v h => by
    rcases keyIs_shape h with ⟨i, u, rfl, e⟩ | ⟨y, u, rfl, e⟩
    · exact nomatch e
    · injection e with e1 _
      subst e1
      cases v <;> rfl

theorem mixKind_is (prog : Program) (w : World) (k : Key) (v : Value) : (mixKind prog w).is k v = keyIs k v := rfl
theorem mixKind_int (prog : Program) (w : World) (i : Int) (t : Tok) : (mixKind prog w).is (.inl i) (.int i t) = true := keyIs_int i t
theorem mixKind_str (prog : Program) (w : World) (x : Str) (t : Tok) : (mixKind prog w).is (.inr x) (.str x t) = true := keyIs_str x t
end L2

namespace L2
open PySem PySem.Spec PyProof.Rows

inductive V where
  | non | bl (b : Bool) | int (i : Int) | str (x : Str) | byt (b : Array UInt8) | flt (b : UInt64) | ref (a : Addr) | ty (n : String)
  deriving DecidableEq

def RelV : V → Value → Prop
  | .non, u => u = Value.none
  | .bl b, u => u = Value.bool b
  | .int i, u => ∃ t, u = Value.int i t
  | .str x, u => ∃ t, u = Value.str x t
  | .byt b, u => ∃ t, u = Value.bytes b t
  | .flt b, u => ∃ t, u = Value.float b t
  | .ref a, u => u = Value.ref a
  | .ty n, u => u = Value.type n

abbrev Vals : List V → List Value → Prop := Paired RelV
theorem Vals.length {xs : List V} {us : List Value} (r : Vals xs us) : xs.length = us.length := Paired.length r
theorem Vals.get : ∀ {xs : List V} {us : List Value} {i : Nat} {x : V}, Vals xs us → xs[i]? = some x → ∃ u, us[i]? = some u ∧ RelV x u
  | _, _, _, _, .nil, e => by simp at e
  | _, _, 0, _, .cons r _, e => by simp at e; subst e; exact ⟨_, rfl, r⟩
  | _, _, i + 1, x, .cons _ t, e => by
    obtain ⟨u, h1, h2⟩ := Vals.get (i := i) (x := x) t (by simpa using e)
    exact ⟨u, by simpa using h1, h2⟩
theorem Vals.set {x : V} {u : Value} (r : RelV x u) : ∀ {xs : List V} {us : List Value} (i : Nat), Vals xs us → Vals (xs.set i x) (us.set i u)
  | _, _, _, .nil => .nil
  | _, _, 0, .cons _ t => .cons r t
  | _, _, i + 1, .cons q t => .cons q (Vals.set r i t)
theorem Vals.append : ∀ {xs ys : List V} {us ws : List Value}, Vals xs us → Vals ys ws → Vals (xs ++ ys) (us ++ ws)
  | _, _, _, _, .nil, s => s
  | _, _, _, _, .cons r t, s => .cons r (Vals.append t s)
theorem Vals.take : ∀ {xs : List V} {us : List Value} (n : Nat), Vals xs us → Vals (xs.take n) (us.take n)
  | _, _, 0, _ => .nil
  | _, _, _ + 1, .nil => .nil
  | _, _, n + 1, .cons r t => .cons r (Vals.take n t)
theorem Vals.drop : ∀ {xs : List V} {us : List Value} (n : Nat), Vals xs us → Vals (xs.drop n) (us.drop n)
  | _, _, 0, r => r
  | _, _, _ + 1, .nil => .nil
  | _, _, n + 1, .cons _ t => Vals.drop n t
def RelO : Option V → Option Value → Prop
  | some v, some u => RelV v u
  | none, none => True
  | _, _ => False
def KV {κ : Type} : List (κ × V) → List (κ × Value) → Prop := Paired fun (p : κ × V) (q : κ × Value) => p.1 = q.1 ∧ RelV p.2 q.2

def kV : Key → V
  | .inl i => .int i
  | .inr x => .str x

inductive HO where
    | lst (xs : List V)
    | tup (xs : List V)
    | dK (kvs : List (Key × V)) | dT (kvs : List (List Key × V))
    | set (S : Int → Bool) (n : Nat)
    | ins (C dx : Addr) (fs : List (Str × V))
    | own (x : Addr)
    | xd (fs : List (Str × V))
    | met (f x : Addr)
    | rng (lo hi : Int)
    | frz (o : Obj) (u : HO)
    | tbl (lp : Pos) (lq : Str)
    | ext (φ : Heap → Prop)

abbrev Hp := Addr → Option HO
def upd (H : Hp) (a : Addr) (o : HO) : Hp := fun b => if b = a then some o else H b
theorem upd_same {H : Hp} {a : Addr} {o : HO} : upd H a o a = some o := by unfold upd; rw [if_pos rfl]
theorem upd_ne {H : Hp} {a b : Addr} {o : HO} (h : b ≠ a) : upd H a o b = H b := by unfold upd; rw [if_neg h]
theorem upd_upd {H : Hp} {a : Addr} {o u : HO} : upd (upd H a o) a u = upd H a u := by
  funext b; unfold upd; split <;> rfl
theorem ne_of {H : Hp} {a b : Addr} {o u : HO} (h : H a = some o) (h' : H b = some u) (d : o ≠ u) : a ≠ b := by
  intro e; subst e; rw [h] at h'; exact d (Option.some.inj h')
theorem ne_of_none {H : Hp} {a b : Addr} {o : HO} (h : H a = some o) (h' : H b = none) : a ≠ b := by
  intro e; subst e; rw [h] at h'; cases h'

section
variable (P : Program) (w : World)
def ObjOk (H : Hp) (h : Heap) (a : Addr) : HO → Prop
  | .lst xs => xs.length ≤ sizeLine ∧ ∃ (its : List Value) (n : Nat), Vals xs its ∧ h.get? a = some { cls := .type "list", data := .seq its.toArray n }
  | .tup xs => xs.length ≤ sizeLine ∧ ∃ its : List Value, Vals xs its ∧ IsTup h a its.toArray
  | .dK kvs => kvs.length ≤ sizeLine ∧ (a == sysModules) = false ∧ ∃ vs, KV kvs vs ∧ h.DictOf (mixKind P w) a vs
  | .dT kvs => kvs.length ≤ sizeLine ∧ (a == sysModules) = false ∧ ∃ xs : List (List Key × Addr × Value),
      Paired (fun (p : List Key × V) (q : List Key × Addr × Value) => p.1 = q.1 ∧ H q.2.1 = some (.tup (p.1.map kV)) ∧ RelV p.2 q.2.2) kvs xs ∧
      ∃ o es ep, h.get? a = some o ∧ o.ExactDict ∧ o.data = .dict es ep ∧ es.toList = xs.map (entryOfKey (tupleKind (mixKind P w))) ∧ (xs.map (·.1)).Nodup
  | .set S n => h.SetOf (intKind P w) a S n
  | .ins C dx fs => H dx = some (.own a) ∧ fs.length ≤ 1000 ∧ dx ≠ a ∧ h.get? a = some (PySem.W.instObj C dx) ∧
      ∃ mA, h.Ns1 dx mA ∧ (∀ f, RelO (fs.lookup f) (mA f)) ∧ PySem.Within mA (fs.map (·.1))
  | .own _ => ∃ o, h.get? a = some o
  | .xd fs => ∃ mA, h.Ns1 a mA ∧ ∀ f, RelO (fs.lookup f) (mA f)
  | .rng lo hi => ∃ t u v, h.get? a = some { cls := .type "range", data := .fields #[.int lo t, .int hi u, .int 1 v] }
  | .frz o u => h.get? a = some o ∧ ObjOk H h a u
  | .tbl lp lq => ∃ vs : Array Value, h.get? a = some { cls := .none, data := .fields vs } ∧ TriplesOk vs.toList ∧ (codeAmong lp vs.toList = none ∨ ∃ c oc us t, codeAmong lp vs.toList = some (.ref c) ∧ H c = some (.frz oc (.own c)) ∧ oc.data = .fields us ∧ us[1]? = some (.str lq t))
  | .met f x => h.get? a = some (PySem.W.methodObj (.ref f) (.ref x))
  | .ext φ => φ h ∧ (∃ o, h.get? a = some o) ∧ ∀ h1 h2 : Heap, φ h1 → (∀ o, h1.get? a = some o → h2.get? a = some o) → φ h2
def HOk (H : Hp) (h : Heap) : Prop := ∀ a o, H a = some o → ObjOk P w H h a o
end

section
variable {P : Program} {w : World} {H H' : Hp} {h h' : Heap} {a : Addr} {o : HO}
theorem ObjOk.lt (x : ObjOk P w H h a o) : a < h.objs.size := by
  cases o with
  | lst xs => obtain ⟨_, _, _, _, e⟩ := x; exact Heap.lt_size e
  | tup xs => obtain ⟨_, _, _, p⟩ := x; exact p.lt
  | dK kvs => obtain ⟨_, _, _, _, o, _, _, e, _⟩ := x; exact Heap.lt_size e
  | dT kvs => obtain ⟨_, _, _, _, o, _, _, e, _⟩ := x; exact Heap.lt_size e
  | set S n => obtain ⟨o, _, _, _, e, _⟩ := x; exact Heap.lt_size e
  | ins C dx fs => obtain ⟨_, _, _, e, _⟩ := x; exact Heap.lt_size e
  | own y => obtain ⟨_, e⟩ := x; exact Heap.lt_size e
  | xd fs => obtain ⟨_, ⟨_, _, _, e, _⟩, _⟩ := x; exact Heap.lt_size e
  | rng lo hi => obtain ⟨_, _, _, e⟩ := x; exact Heap.lt_size e
  | frz ob u => obtain ⟨e, _⟩ := x; exact Heap.lt_size e
  | tbl lp lq => obtain ⟨_, e, _⟩ := x; exact Heap.lt_size e
  | met f y => exact Heap.lt_size (show h.get? a = some _ from x)
  | ext φ => obtain ⟨_, ⟨_, e⟩, _⟩ := x; exact Heap.lt_size e
theorem Paired.mapP {α β : Type} {F G : α → β → Prop} : ∀ {l₁ : List α} {l₂ : List β}, Paired F l₁ l₂ → (∀ a b, F a b → G a b) → Paired G l₁ l₂
  | _, _, .nil, _ => .nil
  | _, _, .cons r t, f => .cons (f _ _ r) (Paired.mapP t f)
theorem ObjOk.stay (x : ObjOk P w H h a o) (k : ∀ b u, (b = a ∨ H b = some (.own a)) → h.get? b = some u → h'.get? b = some u)
    (ho : ∀ b, H b = some (.own a) → H' b = some (.own a)) (ht : ∀ b xs, H b = some (.tup xs) → H' b = some (.tup xs)) (hz : ∀ b ob u, H b = some (.frz ob u) → H' b = some (.frz ob u)) : ObjOk P w H' h' a o := by
  induction o with
  | lst xs => obtain ⟨z, its, n, r, e⟩ := x; exact ⟨z, its, n, r, k _ _ (.inl rfl) e⟩
  | tup xs => obtain ⟨z, its, r, ob, e, c⟩ := x; exact ⟨z, its, r, ob, k _ _ (.inl rfl) e, c⟩
  | dK kvs => obtain ⟨z, y, vs, r, ob, es, ep, e, c⟩ := x; exact ⟨z, y, vs, r, ob, es, ep, k _ _ (.inl rfl) e, c⟩
  | dT kvs =>
    obtain ⟨z, y, xs, r, ob, es, ep, e, c⟩ := x
    exact ⟨z, y, xs, Paired.mapP r fun p q z => ⟨z.1, ht _ _ z.2.1, z.2.2⟩, ob, es, ep, k _ _ (.inl rfl) e, c⟩
  | set S n => obtain ⟨ob, es, ep, t, e, c⟩ := x; exact ⟨ob, es, ep, t, k _ _ (.inl rfl) e, c⟩
  | ins C dx fs =>
    obtain ⟨d, z, ne, e, mA, ⟨od, es, ep, e2, c⟩, r⟩ := x
    exact ⟨ho _ d, z, ne, k _ _ (.inl rfl) e, mA, ⟨od, es, ep, k _ _ (.inr d) e2, c⟩, r⟩
  | own y => obtain ⟨ob, e⟩ := x; exact ⟨ob, k _ _ (.inl rfl) e⟩
  | xd fs => obtain ⟨mA, ⟨od, es, ep, e, c⟩, r⟩ := x; exact ⟨mA, ⟨od, es, ep, k _ _ (.inl rfl) e, c⟩, r⟩
  | rng lo hi => obtain ⟨t, u, v, e⟩ := x; exact ⟨t, u, v, k _ _ (.inl rfl) e⟩
  | frz ob u ih => obtain ⟨e, q⟩ := x; exact ⟨k _ _ (.inl rfl) e, ih q⟩
  | tbl lp lq =>
    obtain ⟨vs, e, tr, r⟩ := x
    exact ⟨vs, k a _ (.inl rfl) e, tr, r.imp id fun ⟨c, oc, us, t, e1, e2, e3⟩ => ⟨c, oc, us, t, e1, hz _ _ _ e2, e3⟩⟩
  | met f y =>
    have e : h.get? a = some (PySem.W.methodObj (.ref f) (.ref y)) := x
    show h'.get? a = some (PySem.W.methodObj (.ref f) (.ref y))
    exact k a _ (.inl rfl) e
  | ext φ => obtain ⟨p, ⟨o, e⟩, st⟩ := x; exact ⟨st _ _ p fun o q => k _ _ (.inl rfl) q, ⟨o, k _ _ (.inl rfl) e⟩, st⟩
theorem HOk.lt (x : HOk P w H h) (e : H a = some o) : a < h.objs.size := (x a o e).lt
theorem HOk.fresh (x : HOk P w H h) (e : h.objs.size ≤ a) : H a = none := by
  cases q : H a with
  | none => rfl
  | some u => exact absurd (Nat.lt_of_lt_of_le (x.lt q) e) (Nat.lt_irrefl _)
theorem HOk.kept (x : HOk P w H h) (k : ∀ b u, h.get? b = some u → h'.get? b = some u) : HOk P w H h' := fun a o e =>
  (x a o e).stay (fun b u _ q => k b u q) (fun _ q => q) (fun _ _ q => q) fun _ _ _ q => q
theorem HOk.laid (x : HOk P w H h) (k : ∀ b u, h.get? b = some u → h'.get? b = some u) (hp : h.objs.size ≤ a) (new : ObjOk P w (upd H a o) h' a o) : HOk P w (upd H a o) h' := fun b u e => by
  have hn := x.fresh hp
  by_cases hb : b = a
  · subst hb; rw [upd_same] at e; cases e; exact new
  · rw [upd_ne hb] at e
    exact (x b u e).stay (fun c v _ q => k c v q) (fun c q => by rw [upd_ne (ne_of_none q hn)]; exact q) (fun c xs q => by rw [upd_ne (ne_of_none q hn)]; exact q) fun c ob xs q => by rw [upd_ne (ne_of_none q hn)]; exact q
end

def Rd (H : Hp) (a : Addr) (u : HO) : Prop := H a = some u ∨ ∃ o, H a = some (.frz o u)
theorem Rd.ok {P : Program} {w : World} {H : Hp} {h : Heap} {a : Addr} {u : HO} (r : Rd H a u) (x : HOk P w H h) : ObjOk P w H h a u := by
  rcases r with r | ⟨o, r⟩
  · exact x a u r
  · obtain ⟨_, q⟩ := x a _ r
    exact q
def Mut : Option HO → Prop
  | some (.lst _) => True
  | some (.dK _) => True
  | some (.dT _) => True
  | some (.set _ _) => True
  | some (.ins _ _ _) => True
  | some (.ext _) => True
  | _ => False
section
variable {P : Program} {w : World} {H : Hp} {h h' : Heap} {x e : Addr} {o' : HO}
theorem HOk.write (ok : HOk P w H h) (mu : Mut (H x)) (he : e = x ∨ H e = some (.own x)) (k : ∀ b u, b ≠ e → h.get? b = some u → h'.get? b = some u) (heo : ∃ u, h'.get? e = some u)
    (new : ObjOk P w (upd H x o') h' x o') : HOk P w (upd H x o') h' := fun b u q => by
  have nown : ∀ c y, H c = some (.own y) → c ≠ x := fun c y r z => by subst z; rw [r] at mu; exact mu
  have ntup : ∀ c xs, H c = some (.tup xs) → c ≠ x := fun c xs r z => by subst z; rw [r] at mu; exact mu
  have nfrz : ∀ c ob xs, H c = some (.frz ob xs) → c ≠ x := fun c ob xs r z => by subst z; rw [r] at mu; exact mu
  by_cases hb : b = x
  · subst hb; rw [upd_same] at q; cases q; exact new
  · rw [upd_ne hb] at q
    by_cases hbe : b = e
    · have q' : H b = some (.own x) := by
        rcases he with z | z
        · exact absurd (hbe.trans z) hb
        · rw [hbe]; exact z
      rw [q] at q'; cases q'
      obtain ⟨v, hv⟩ := heo
      exact ⟨v, by rw [hbe]; exact hv⟩
    · refine (ok b u q).stay (fun c v hc r => k c v ?_ r) (fun c r => by rw [upd_ne (nown c b r)]; exact r) (fun c xs r => by rw [upd_ne (ntup c xs r)]; exact r) fun c ob xs r => by rw [upd_ne (nfrz c ob xs r)]; exact r
      rcases hc with rfl | hc
      · exact hbe
      · rintro rfl
        rcases he with z | z
        · exact nown c b hc z
        · rw [hc] at z; cases z; exact hb rfl
end

/-! ### kept unless tracked; of the frames at fs (the callers') the slots may change (an exception that passes writes there); of the records at ex (iterators) nothing is said -/
structure Un (fs ex : List Addr) (H H' : Hp) (h h' : Heap) : Prop where
  keep : ∀ b o, h.get? b = some o → H b = none → b ∉ fs → b ∉ ex → h'.get? b = some o
  slot : ∀ b o, h.get? b = some o → H b = none → b ∈ fs → b ∉ ex → ∃ sl, h'.get? b = some { o with slots := sl }
  free : ∀ b o, h.get? b = some o → H b = none → b ∉ ex → H' b = none
  there : ∀ b o, h.get? b = some o → b ∉ ex → ∃ o', h'.get? b = some o'
  tups : ∀ b xs, H b = some (.tup xs) → H' b = some (.tup xs)
  frzs : ∀ b o u, H b = some (.frz o u) → H' b = some (.frz o u)
  tbls : ∀ b lp lq, H b = some (.tbl lp lq) → H' b = some (.tbl lp lq)
section
variable {fs fs' ex ex' : List Addr} {H H1 H2 : Hp} {h h1 h2 h' : Heap} {a x e : Addr} {o : HO}
theorem Un.any (u : Un fs ex H H1 h h1) {b : Addr} {ob : Obj} (q : h.get? b = some ob) (n : H b = none) (hx : b ∉ ex) : ∃ sl, h1.get? b = some { ob with slots := sl } := by
  by_cases hb : b ∈ fs
  · exact u.slot b ob q n hb hx
  · exact ⟨ob.slots, u.keep b ob q n hb hx⟩
theorem Un.kept (k : ∀ b u, h.get? b = some u → h'.get? b = some u) : Un fs ex H H h h' :=
  ⟨fun b ob q _ _ _ => k b ob q, fun b ob q _ _ _ => ⟨ob.slots, k b ob q⟩, fun _ _ _ n _ => n, fun b ob q _ => ⟨ob, k b ob q⟩, fun _ _ q => q, fun _ _ _ q => q, fun _ _ _ q => q⟩
theorem Un.refl : Un fs ex H H h h := Un.kept fun _ _ q => q
theorem Un.laid (k : ∀ b u, h.get? b = some u → h'.get? b = some u) (hp : h.objs.size ≤ a) (hn : H a = none) : Un fs ex H (upd H a o) h h' where
  keep := fun b u q _ _ _ => k b u q
  slot := fun b u q _ _ _ => ⟨u.slots, k b u q⟩
  free := fun b u q n _ => by rw [upd_ne (Nat.ne_of_lt (Nat.lt_of_lt_of_le (Heap.lt_size q) hp))]; exact n
  there := fun b u q _ => ⟨u, k b u q⟩
  tups := fun b xs q => by rw [upd_ne (ne_of_none q hn)]; exact q
  frzs := fun b u xs q => by rw [upd_ne (ne_of_none q hn)]; exact q
  tbls := fun b lp lq q => by rw [upd_ne (ne_of_none q hn)]; exact q
theorem Un.write (mu : Mut (H x)) (he : e = x ∨ H e = some (.own x)) (k : ∀ b u, b ≠ e → h.get? b = some u → h'.get? b = some u) (heo : ∃ u, h'.get? e = some u) : Un fs ex H (upd H x o) h h' := by
  have hx : ∀ b, H b = none → b ≠ x := fun b n z => by subst z; rw [n] at mu; exact mu
  have hb : ∀ b, H b = none → b ≠ e := fun b n z => by
    subst z
    rcases he with r | r
    · exact hx b n r
    · rw [n] at r; cases r
  have hm : ∀ b u, H b = some u → ¬ Mut (some u) → b ≠ x := fun b u q nm z => by subst z; rw [q] at mu; exact nm mu
  refine ⟨fun b u q n _ _ => k b u (hb b n) q, fun b u q n _ _ => ⟨u.slots, k b u (hb b n) q⟩, fun b u q n _ => by rw [upd_ne (hx b n)]; exact n, fun b u q _ => ?_,
    fun b xs q => by rw [upd_ne (hm b _ q fun z => z)]; exact q, fun b u xs q => by rw [upd_ne (hm b _ q fun z => z)]; exact q, fun b lp lq q => by rw [upd_ne (hm b _ q fun z => z)]; exact q⟩
  by_cases hbe : b = e
  · subst hbe; exact heo
  · exact ⟨u, k b u hbe q⟩
end

/-! ### the heap without what is tracked -/
def trk (h : Heap) (H : Hp) : List Addr := (List.range h.objs.size).filter fun a => (H a).isSome
def hidT (h : Heap) (H : Hp) : Heap := PySem.W.hideAll h (trk h H)
theorem hidT_size (h : Heap) (H : Hp) : (hidT h H).objs.size = h.objs.size := PySem.W.hideAll_size _ _
theorem hidT_get {h : Heap} {H : Hp} {b : Addr} {o : Obj} (e : h.get? b = some o) (n : H b = none) : (hidT h H).get? b = some o :=
  PySem.W.hideAll_get _ e fun hm => by
    have q : (H b).isSome = true := (List.mem_filter.mp hm).2
    rw [n] at q; simp at q
theorem of_hidT {h : Heap} {H : Hp} {b : Addr} {o : Obj} (e : (hidT h H).get? b = some o) : h.get? b = some o ∧ H b = none := by
  have e' : h.get? b = some o := PySem.W.of_hideAll (trk h H) e
  refine ⟨e', ?_⟩
  cases q : H b with
  | none => rfl
  | some x =>
    have hm : b ∈ trk h H := List.mem_filter.mpr ⟨List.mem_range.mpr (Heap.lt_size e'), by simp [q]⟩
    have z : (hidT h H).get? b = none := PySem.W.hideAll_none (trk h H) hm
    rw [z] at e; cases e

/-! ### OpenK's ledger, filled with every new object but one -/
def allNews (g h : Heap) (L : Addr) : List (Addr × Obj) := (List.range h.objs.size).filterMap fun a => if a = L ∨ (g.get? a).isSome = true then none else (h.get? a).map fun o => (a, o)
def rest (g h : Heap) (L d : Addr) : List (Addr × Obj) := (allNews g h L).filter fun p => decide (p.1 ≠ d)
end L2

namespace L2
open PySem PySem.Spec PyProof.Rows

structure Mod (K : PySem.W.Frag) (mg : Str → Option Value) (base : Heap) : Prop where
  kin : K.In base
  glob : base.Ns mainGlobals mg
  blt : ∃ mb, base.Ns builtinsNs mb ∧ ∀ x : Str, x ≠ "__name__" → mb x = bootBuiltins x
  nolimit : base.NoLimit

structure Cx where
  prog : Program
  w : World
  K : PySem.W.Frag
  mg : Str → Option Value
  base : Heap
  A : Around
  N : List Str
  s₀ : Shared
  H₀ : Hp
  env : Env
  outer : List Env
  stack : List Env
  ex : List Addr
  fn : Str → Bool
  calm : Bool
  pn : List (Addr × Obj)
  xe : Value → Shared → Prop
def frs (l : List Env) : List Addr := l.filterMap (·.frame)
abbrev Cx.fs (X : Cx) : List Addr := frs X.outer

def Vis (sc : Scope) (x : Str) : Prop := sc.names.lookup x = some .local ∨ sc.names.lookup x = some .cell ∨ sc.names.lookup x = some .free
def Loc (sc : Scope) (x : Str) : Prop := sc.names.lookup x = some .local ∨ sc.names.lookup x = some .cell
def Look (env : Env) (h : Heap) (m : Str → Option Value) (x : Str) (u : Value) : Prop :=
  (env.kindOf x = some .local ∧ m x = some u) ∨ ((env.kindOf x = some .cell ∨ env.kindOf x = some .free) ∧ ∃ c, env.cells.lookup x = some c ∧ h.IsCell c (some u))

structure Cx.Ok (X : Cx) : Prop where
  mod : Mod X.K X.mg X.base
  kind : X.env.scope.kind = .function
  glob : X.env.globals = mainGlobals
  blt : X.env.builtins = builtinsNs
  above : X.s₀.heap.objs.size ≤ X.env.locals
  inj : ∀ x y c, X.env.cells.lookup x = some c → X.env.cells.lookup y = some c → x = y
  has : ∀ x, (X.env.kindOf x = some .cell ∨ X.env.kindOf x = some .free) → ∃ c, X.env.cells.lookup x = some c
  cab : ∀ x c, X.fn x = true → X.env.cells.lookup x = some c → X.s₀.heap.objs.size ≤ c
  hd : X.calm = true → X.A.handled = none
  frames : X.A.frames = some X.stack
  stk : X.stack = X.outer ∨ (X.stack = X.env :: X.outer ∧ X.env.frame = some X.env.locals)
  exf : ∀ b ∈ X.ex, b ≠ X.env.locals ∧ ∀ x c, X.env.cells.lookup x = some c → c ≠ b
  bs : ∀ b o, X.base.get? b = some o → X.s₀.heap.get? b = some o ∧ X.H₀ b = none
  bsz : X.base.objs.size ≤ X.s₀.heap.objs.size
  noex : ∀ b o, X.base.get? b = some o → b ∉ X.ex
  exfs : ∀ b ∈ X.ex, b ∉ X.fs
  funs : X.s₀.heap.FunFrames X.base X.outer
  frf : ∀ b ∈ X.fs, X.H₀ b = none

structure Inv (X : Cx) (pins : List (Addr × Obj)) (σ : List (Option V)) (H : Hp) (s : Shared) : Prop where
  ok : X.Ok
  os : s.os = X.s₀.os
  bare : AllBare s.gens
  base : Un X.fs X.ex X.H₀ H X.s₀.heap s.heap
  loc : ∃ m, s.heap.Ns X.env.locals m ∧ ∀ (i : Nat) (x : Str) (v : V), X.N[i]? = some x → σ[i]? = some (some v) → Vis X.env.scope x → ∃ u, RelV v u ∧ Look X.env s.heap m x u
  cell : ∀ x c, X.env.cells.lookup x = some c → ∃ v, s.heap.IsCell c v
  free : H X.env.locals = none
  freeC : ∀ x c, X.env.cells.lookup x = some c → H c = none
  pin : ∀ p ∈ X.pn ++ pins, s.heap.get? p.1 = some p.2 ∧ H p.1 = none ∧ p.1 ≠ X.env.locals ∧ p.1 ∉ X.fs ∧ ∀ v, p.2.data ≠ .cell v
  hok : HOk X.prog X.w H s.heap
  len : σ.length = X.N.length

section
variable {X : Cx} {pins : List (Addr × Obj)} {σ : List (Option V)} {H H' : Hp} {s : Shared} {h' : Heap}

theorem Cx.Ok.nofr (ok : X.Ok) {b : Addr} {o : Obj} (e : X.base.get? b = some o) : b ∉ X.fs := fun hb => by
  have := (ok.funs.mem hb).1
  rw [e] at this; cases this
theorem Inv.bs (I : Inv X pins σ H s) : ∀ b o, X.base.get? b = some o → s.heap.get? b = some o ∧ H b = none := fun b o e =>
  ⟨I.base.keep b o (I.ok.bs b o e).1 (I.ok.bs b o e).2 (I.ok.nofr e) (I.ok.noex b o e), I.base.free b o (I.ok.bs b o e).1 (I.ok.bs b o e).2 (I.ok.noex b o e)⟩
theorem Inv.bk (I : Inv X pins σ H s) : ∀ b o, X.base.get? b = some o → s.heap.get? b = some o := fun b o e => (I.bs b o e).1
theorem Inv.mod (I : Inv X pins σ H s) : Mod X.K X.mg X.base := I.ok.mod
theorem Inv.kIn (I : Inv X pins σ H s) : X.K.In s.heap := I.ok.mod.kin.keeps I.bk
theorem Inv.nolimit (I : Inv X pins σ H s) : s.heap.NoLimit := I.ok.mod.nolimit.keeps I.bk
theorem Inv.lt (I : Inv X pins σ H s) : X.env.locals < s.heap.objs.size := let ⟨_, hn, _⟩ := I.loc; hn.lt
theorem Inv.sz (I : Inv X pins σ H s) : X.s₀.heap.objs.size ≤ s.heap.objs.size := Nat.le_trans I.ok.above (Nat.le_of_lt I.lt)
theorem Inv.nofs (I : Inv X pins σ H s) {a : Addr} (h : s.heap.objs.size ≤ a) : a ∉ X.fs := fun hb => by
  obtain ⟨_, o, ho, _⟩ := I.ok.funs.mem hb
  exact absurd (Nat.lt_of_lt_of_le (Heap.lt_size ho) (Nat.le_trans I.sz h)) (Nat.lt_irrefl _)
theorem Inv.cne (I : Inv X pins σ H s) : ∀ x c, X.env.cells.lookup x = some c → c ≠ X.env.locals := fun x c e z => by
  obtain ⟨v, o, ho, hd⟩ := I.cell x c e
  obtain ⟨m, ⟨o', es, ep, ho', hd', _⟩, _⟩ := I.loc
  rw [z, ho'] at ho; cases ho; rw [hd'] at hd; cases hd
theorem Inv.funs (I : Inv X pins σ H s) : s.heap.FunFrames X.base X.outer := by
  have all : ∀ (l : List Env), (∀ b ∈ frs l, b ∈ X.fs) → X.s₀.heap.FunFrames X.base l → s.heap.FunFrames X.base l := by
    intro l
    induction l with
    | nil => intro _ _; trivial
    | cons env r ih =>
      intro hs hl
      obtain ⟨hk, ⟨L, o, hf, hn, ho, hd⟩, hr⟩ := hl
      have hL : L ∈ X.fs := hs L (by unfold frs; rw [List.filterMap_cons, hf]; exact List.mem_cons_self)
      obtain ⟨sl, e⟩ := I.base.slot L o ho (I.ok.frf L hL) hL fun z => I.ok.exfs L z hL
      exact ⟨hk, ⟨L, _, hf, hn, e, hd⟩, ih (fun b hb => hs b (by unfold frs; rw [List.filterMap_cons, hf]; exact List.mem_cons_of_mem _ hb)) hr⟩
  exact all X.outer (fun _ hb => hb) I.ok.funs

theorem Inv.stack (I : Inv X pins σ H s) : s.heap.FunFrames X.base X.stack := by
  rcases I.ok.stk with e | ⟨e, hf⟩
  · rw [e]; exact I.funs
  · rw [e]
    obtain ⟨m, hn, _⟩ := I.loc
    refine .cons (by rw [I.ok.kind]; decide) hf hn ?_ I.funs
    exact Heap.get?_none_of_le (Nat.le_trans I.ok.bsz I.ok.above)
theorem Inv.stkSub (I : Inv X pins σ H s) : ∀ b ∈ frs X.stack, b ∈ X.env.locals :: X.fs := fun b hb => by
  rcases I.ok.stk with e | ⟨e, hf⟩
  · rw [e] at hb; exact List.mem_cons_of_mem _ hb
  · rw [e] at hb
    unfold frs at hb
    rw [List.filterMap_cons, hf] at hb
    exact hb
theorem Inv.stkFree (I : Inv X pins σ H s) : ∀ b ∈ frs X.stack, H b = none := fun b hb => by
  rcases List.mem_cons.mp (I.stkSub b hb) with e | hb
  · rw [e]; exact I.free
  · obtain ⟨_, o, ho, _⟩ := I.ok.funs.mem hb
    exact I.base.free b o ho (I.ok.frf b hb) fun z => I.ok.exfs b z hb

theorem Inv.step {g' : Array GenState} {t' : Nat} {d' : Drawn} {ch : List Addr} (I : Inv X pins σ H s)
    (hch : ∀ b ∈ ch, (b ∈ X.ex ∨ X.s₀.heap.objs.size ≤ b) ∧ b ≠ X.env.locals ∧ (∀ x c, X.env.cells.lookup x = some c → c ≠ b) ∧ ∀ p ∈ X.pn ++ pins, p.1 ≠ b)
    (keep : ∀ b o, b ≠ X.env.locals → b ∉ X.fs → b ∉ ch → s.heap.get? b = some o → H b = none → h'.get? b = some o)
    (slot : ∀ b o, b ≠ X.env.locals → b ∈ X.fs → b ∉ ch → s.heap.get? b = some o → H b = none → ∃ sl, h'.get? b = some { o with slots := sl }) (free : ∀ b o, b ∉ ch → s.heap.get? b = some o → H b = none → H' b = none)
    (there : ∀ b o, b ∉ ch → s.heap.get? b = some o → ∃ o', h'.get? b = some o')
    (tups : ∀ b xs, H b = some (.tup xs) → H' b = some (.tup xs)) (frzs : ∀ b o u, H b = some (.frz o u) → H' b = some (.frz o u)) (tbls : ∀ b lp lq, H b = some (.tbl lp lq) → H' b = some (.tbl lp lq))
    (ns : ∀ m, s.heap.Ns X.env.locals m → h'.Ns X.env.locals m) (hok : HOk X.prog X.w H' h') (hg : AllBare g') :
    Inv X pins σ H' { s with heap := h', gens := g', drawn := d', toks := t' } := by
  have neL : ∀ b o, X.s₀.heap.get? b = some o → b ≠ X.env.locals := fun b o e => Nat.ne_of_lt (Nat.lt_of_lt_of_le (Heap.lt_size e) I.ok.above)
  have neC : ∀ b o, X.s₀.heap.get? b = some o → b ∉ X.ex → b ∉ ch := fun b o e hx hb => by
    rcases (hch b hb).1 with z | z
    · exact hx z
    · exact absurd (Nat.lt_of_lt_of_le (Heap.lt_size e) z) (Nat.lt_irrefl _)
  have cellK : ∀ x c, X.env.cells.lookup x = some c → ∀ v, s.heap.IsCell c v → h'.IsCell c v := fun x c e v ⟨o, ho, hd⟩ => by
    have nch : c ∉ ch := fun z => (hch c z).2.2.1 x c e rfl
    by_cases hc : c ∈ X.fs
    · obtain ⟨sl, q⟩ := slot c o (I.cne x c e) hc nch ho (I.freeC x c e)
      exact ⟨_, q, hd⟩
    · exact ⟨o, keep c o (I.cne x c e) hc nch ho (I.freeC x c e), hd⟩
  refine ⟨I.ok, I.os, hg, ⟨fun b o e n hb hx => ?_, fun b o e n hb hx => ?_, fun b o e n hx => ?_, fun b o e hx => ?_, fun b xs e => tups b xs (I.base.tups b xs e), fun b o xs e => frzs b o xs (I.base.frzs b o xs e), fun b lp lq e => tbls b lp lq (I.base.tbls b lp lq e)⟩, ?_, fun x c e => ?_, ?_, fun x c e => ?_, fun p hp => ?_, hok, I.len⟩
  · exact keep b o (neL b o e) hb (neC b o e hx) (I.base.keep b o e n hb hx) (I.base.free b o e n hx)
  · obtain ⟨sl, e1⟩ := I.base.slot b o e n hb hx
    obtain ⟨sl', e2⟩ := slot b _ (neL b o e) hb (neC b o e hx) e1 (I.base.free b o e n hx)
    exact ⟨sl', e2⟩
  · obtain ⟨o', e1⟩ := I.base.there b o e hx
    exact free b o' (neC b o e hx) e1 (I.base.free b o e n hx)
  · obtain ⟨o', e1⟩ := I.base.there b o e hx
    exact there b o' (neC b o e hx) e1
  · obtain ⟨m, hn, hl⟩ := I.loc
    refine ⟨m, ns m hn, fun i x v e1 e2 e3 => ?_⟩
    obtain ⟨u, r, l⟩ := hl i x v e1 e2 e3
    refine ⟨u, r, ?_⟩
    rcases l with l | ⟨k, c, e, z⟩
    · exact .inl l
    · exact .inr ⟨k, c, e, cellK x c e _ z⟩
  · obtain ⟨v, z⟩ := I.cell x c e
    exact ⟨v, cellK x c e v z⟩
  · obtain ⟨m, ⟨o, _, _, ho, _⟩, _⟩ := I.loc
    exact free _ o (fun z => (hch _ z).2.1 rfl) ho I.free
  · obtain ⟨v, o, ho, hd⟩ := I.cell x c e
    exact free c o (fun z => (hch c z).2.2.1 x c e rfl) ho (I.freeC x c e)
  · obtain ⟨e, n, ne, nf, d⟩ := I.pin p hp
    have nch : p.1 ∉ ch := fun z => (hch p.1 z).2.2.2 p hp rfl
    exact ⟨keep p.1 p.2 ne nf nch e n, free p.1 p.2 nch e n, ne, nf, d⟩
theorem Inv.un {t' : Nat} (I : Inv X pins σ H s) (u : Un X.fs [] H H' s.heap h') (hok : HOk X.prog X.w H' h') : Inv X pins σ H' { s with heap := h', toks := t' } := by
  obtain ⟨m, ⟨o, es, ep, ho, r⟩, _⟩ := id I.loc
  obtain ⟨sl, hL⟩ := u.any ho I.free (by simp)
  exact I.step (g' := s.gens) (d' := s.drawn) (ch := []) (fun _ z => nomatch z) (fun b o _ hb _ e n => u.keep b o e n hb (by simp)) (fun b o _ hb _ e n => u.slot b o e n hb (by simp)) (fun b o _ e n => u.free b o e n (by simp)) (fun b o _ e => u.there b o e (by simp)) u.tups u.frzs u.tbls (fun m' hm => by
    obtain ⟨o', es', ep', ho', r'⟩ := hm
    rw [ho] at ho'; cases ho'
    exact ⟨_, es', ep', hL, r'⟩) hok I.bare
theorem Inv.call {g' : Array GenState} {t' : Nat} {d' : Drawn} {ch : List Addr} (I : Inv X pins σ H s) (u : Un (frs X.stack) ch H H' s.heap h') (hok : HOk X.prog X.w H' h') (hg : AllBare g')
    (hch : ∀ b ∈ ch, (b ∈ X.ex ∨ X.s₀.heap.objs.size ≤ b) ∧ b ≠ X.env.locals ∧ (∀ x c, X.env.cells.lookup x = some c → c ≠ b) ∧ ∀ p ∈ X.pn ++ pins, p.1 ≠ b) :
    Inv X pins σ H' { s with heap := h', gens := g', drawn := d', toks := t' } := by
  obtain ⟨m, ⟨o, es, ep, ho, r⟩, _⟩ := id I.loc
  obtain ⟨sl, hL⟩ := u.any ho I.free fun z => (hch _ z).2.1 rfl
  exact I.step (ch := ch) hch (fun b o hL hb hc e n => u.keep b o e n (fun z => (List.mem_cons.mp (I.stkSub b z)).elim hL hb) hc) (fun b o _ _ hc e n => u.any e n hc) (fun b o hc e n => u.free b o e n hc) (fun b o hc e => u.there b o e hc) u.tups u.frzs u.tbls (fun m' hm => by
    obtain ⟨o', es', ep', ho', r'⟩ := hm
    rw [ho] at ho'; cases ho'
    exact ⟨_, es', ep', hL, r'⟩) hok hg
theorem Inv.turned {t' : Nat} {it : Addr} (I : Inv X pins σ H s) (k : ∀ b o, b ≠ it → s.heap.get? b = some o → h'.get? b = some o) (hn : H it = none) (hL : it ≠ X.env.locals)
    (h1 : it ∈ X.ex ∨ X.s₀.heap.objs.size ≤ it) (h2 : ∀ x c, X.env.cells.lookup x = some c → c ≠ it) (h3 : ∀ p ∈ X.pn ++ pins, p.1 ≠ it) : Inv X pins σ H { s with heap := h', toks := t' } := by
  have nit : ∀ b u, H b = some u → b ≠ it := fun b u e z => by rw [z, hn] at e; cases e
  refine I.step (g' := s.gens) (d' := s.drawn) (ch := [it]) (fun b hb => ?_) (fun b o _ _ hc e _ => k b o (fun z => hc (by simp [z])) e) (fun b o _ _ hc e _ => ⟨o.slots, k b o (fun z => hc (by simp [z])) e⟩) (fun _ _ _ _ n => n)
    (fun b o hc e => ⟨o, k b o (fun z => hc (by simp [z])) e⟩) (fun _ _ e => e) (fun _ _ _ e => e) (fun _ _ _ e => e) (fun m hm => ?_) (fun b u e => ?_) I.bare
  · have e : b = it := by simpa using hb
    subst e
    exact ⟨h1, hL, h2, h3⟩
  · obtain ⟨o, es, ep, ho, r⟩ := hm
    exact ⟨o, es, ep, k _ o (Ne.symm hL) ho, r⟩
  · refine (I.hok b u e).stay (fun c v hc q => k c v ?_ q) (fun _ q => q) (fun _ _ q => q) fun _ _ _ q => q
    rcases hc with z | z
    · rw [z]; exact nit b u e
    · exact nit c _ z
theorem Inv.tok (I : Inv X pins σ H s) (t : Nat) : Inv X pins σ H { s with toks := t } := I.un (h' := s.heap) (t' := t) Un.refl I.hok
theorem Inv.kept {t' : Nat} (I : Inv X pins σ H s) (k : ∀ b u, s.heap.get? b = some u → h'.get? b = some u) : Inv X pins σ H { s with heap := h', toks := t' } := I.un (Un.kept k) (I.hok.kept k)
theorem Inv.laid {a : Addr} {o : HO} {t' : Nat} (I : Inv X pins σ H s) (k : ∀ b u, s.heap.get? b = some u → h'.get? b = some u) (hp : s.heap.objs.size ≤ a) (new : ObjOk X.prog X.w (upd H a o) h' a o) :
    Inv X pins σ (upd H a o) { s with heap := h', toks := t' } := I.un (Un.laid k hp (I.hok.fresh hp)) (I.hok.laid k hp new)
theorem Inv.write {x e : Addr} {o : HO} {t' : Nat} (I : Inv X pins σ H s) (mu : Mut (H x)) (he : e = x ∨ H e = some (.own x)) (k : ∀ b u, b ≠ e → s.heap.get? b = some u → h'.get? b = some u) (heo : ∃ u, h'.get? e = some u)
    (new : ObjOk X.prog X.w (upd H x o) h' x o) : Inv X pins σ (upd H x o) { s with heap := h', toks := t' } := I.un (Un.write mu he k heo) (I.hok.write mu he k heo new)
theorem Inv.weak {σ' : List (Option V)} (I : Inv X pins σ H s) (hl : σ'.length = σ.length) (w : ∀ (i : Nat) v, σ'[i]? = some (some v) → σ[i]? = some (some v)) : Inv X pins σ' H s :=
  ⟨I.ok, I.os, I.bare, I.base, let ⟨m, hn, hl'⟩ := I.loc; ⟨m, hn, fun i x v e1 e2 e3 => hl' i x v e1 (w i v e2) e3⟩, I.cell, I.free, I.freeC, I.pin, I.hok, hl.trans I.len⟩
theorem Inv.pins_of {pins' : List (Addr × Obj)} (I : Inv X pins σ H s) (h : ∀ p ∈ pins', s.heap.get? p.1 = some p.2 ∧ H p.1 = none ∧ p.1 ≠ X.env.locals ∧ p.1 ∉ X.fs ∧ ∀ v, p.2.data ≠ .cell v) : Inv X pins' σ H s :=
  ⟨I.ok, I.os, I.bare, I.base, I.loc, I.cell, I.free, I.freeC, fun p hp => (List.mem_append.mp hp).elim (fun z => I.pin p (List.mem_append_left _ z)) (h p), I.hok, I.len⟩

theorem nodup_ix {N : List Str} (hN : N.Nodup) {i j : Nat} {x : Str} (a : N[i]? = some x) (b : N[j]? = some x) : i = j := by
  obtain ⟨h1, e1⟩ := List.getElem?_eq_some_iff.mp a
  obtain ⟨h2, e2⟩ := List.getElem?_eq_some_iff.mp b
  exact (List.getElem_inj hN).mp (e1.trans e2.symm)

theorem store_ok2 {M : Model} {A : Around} {E : Value → Shared → Prop} {i : Nat} {x : Str} {v : V} {u : Value} {Q : Unit → Shared → Prop} (I : Inv X pins σ H s) (hN : X.N.Nodup) (hi : X.N[i]? = some x) (hx : Loc X.env.scope x) (r : RelV v u)
    (h : ∀ s', Inv X pins (σ.set i (some v)) H s' → (∃ a, Heap.SameBut a s.heap s'.heap ∧ (a = X.env.locals ∨ X.env.cells.lookup x = some a)) → Q () s') (hf : X.fn x = true ∨ X.env.scope.names.lookup x = some .local := by first | exact .inl rfl | exact .inr rfl | assumption) : wpAny M A (storeName X.env x u) Q E s := by
  obtain ⟨m, hn, hl⟩ := id I.loc
  have hcls : (X.env.scope.kind == .class || (X.env.scope.kind == .module && X.env.locals != X.env.globals)) = false := by rw [I.ok.kind]; rfl
  have hiσ : i < σ.length := by rw [I.len]; exact (List.getElem?_eq_some_iff.mp hi).1
  have cne := I.cne
  have tracked : ∀ {a : Addr} {h' : Heap}, (∃ o, s.heap.get? a = some o ∧ H a = none) → Heap.SameBut a s.heap h' → HOk X.prog X.w H h' := fun {a h'} ha hs b ob e => by
    obtain ⟨_, _, hfree⟩ := ha
    refine (I.hok b ob e).stay (fun c w' hc q => (hs.2 c ?_).trans q) (fun _ q => q) (fun _ _ q => q) fun _ _ _ q => q
    rintro rfl
    rcases hc with rfl | hc
    · rw [hfree] at e; cases e
    · rw [hfree] at hc; cases hc
  rcases hx with hk | hk
  · refine wpAny_storeName_local hk hn (fun h' hn' hs => ?_) hcls
    obtain ⟨oL, _, _, hoL, _⟩ := id hn
    refine h _ ⟨I.ok, I.os, I.bare, ⟨fun b o e n hb hx => ?_, fun b o e n hb hx => ?_, I.base.free, fun b o e hx => ?_, I.base.tups, I.base.frzs, I.base.tbls⟩, ⟨_, hn', fun j y v' e1 e2 e3 => ?_⟩, fun y c e => ?_, I.free, I.freeC, fun p hp => ?_, tracked ⟨oL, hoL, I.free⟩ hs, by simpa using I.len⟩ ⟨_, hs, .inl rfl⟩
    · exact (hs.2 b (Nat.ne_of_lt (Nat.lt_of_lt_of_le (Heap.lt_size e) I.ok.above))).trans (I.base.keep b o e n hb hx)
    · obtain ⟨sl, e1⟩ := I.base.slot b o e n hb hx
      exact ⟨sl, (hs.2 b (Nat.ne_of_lt (Nat.lt_of_lt_of_le (Heap.lt_size e) I.ok.above))).trans e1⟩
    · obtain ⟨o', e1⟩ := I.base.there b o e hx
      exact ⟨o', (hs.2 b (Nat.ne_of_lt (Nat.lt_of_lt_of_le (Heap.lt_size e) I.ok.above))).trans e1⟩
    · by_cases hj : j = i
      · subst hj
        rw [hi] at e1; cases e1
        rw [List.getElem?_set_self hiσ] at e2
        cases e2
        exact ⟨u, r, .inl ⟨hk, by simp⟩⟩
      · rw [List.getElem?_set_ne (Ne.symm hj)] at e2
        obtain ⟨u', r', q⟩ := hl j y v' e1 e2 e3
        refine ⟨u', r', ?_⟩
        rcases q with ⟨k, e⟩ | ⟨k, c, e, z⟩
        · refine .inl ⟨k, ?_⟩
          have : y ≠ x := fun e => hj (nodup_ix hN e1 (e ▸ hi))
          simp [this, e]
        · exact .inr ⟨k, c, e, z.sameBut hs (cne y c e)⟩
    · obtain ⟨w', z⟩ := I.cell y c e
      exact ⟨w', z.sameBut hs (cne y c e)⟩
    · obtain ⟨e, n, ne, nf, d⟩ := I.pin p hp
      exact ⟨(hs.2 p.1 ne).trans e, n, ne, nf, d⟩
  · have hfn : X.fn x = true := by
      rcases hf with z | z
      · exact z
      · rw [z] at hk; cases hk
    obtain ⟨c, hc⟩ := I.ok.has x (.inl hk)
    obtain ⟨w', z⟩ := I.cell x c hc
    refine wpAny_storeName_cell I.ok.kind hk hc z (fun h' hc' hs => ?_)
    obtain ⟨oc, hoc, hocd⟩ := id z
    refine h { s with heap := h' } ⟨I.ok, I.os, I.bare, ⟨fun b o e n hb hx => ?_, fun b o e n hb hx => ?_, I.base.free, fun b o e hx => ?_, I.base.tups, I.base.frzs, I.base.tbls⟩, ⟨m, hn.sameBut hs (Ne.symm (cne x c hc)), fun j y v' e1 e2 e3 => ?_⟩, fun y c' e => ?_, I.free, I.freeC, fun p hp => ?_, tracked ⟨oc, hoc, I.freeC x c hc⟩ hs, by simpa using I.len⟩ ⟨c, hs, .inr hc⟩
    · exact (hs.2 b (Nat.ne_of_lt (Nat.lt_of_lt_of_le (Heap.lt_size e) (I.ok.cab x c hfn hc)))).trans (I.base.keep b o e n hb hx)
    · obtain ⟨sl, e1⟩ := I.base.slot b o e n hb hx
      exact ⟨sl, (hs.2 b (Nat.ne_of_lt (Nat.lt_of_lt_of_le (Heap.lt_size e) (I.ok.cab x c hfn hc)))).trans e1⟩
    · obtain ⟨o', e1⟩ := I.base.there b o e hx
      exact ⟨o', (hs.2 b (Nat.ne_of_lt (Nat.lt_of_lt_of_le (Heap.lt_size e) (I.ok.cab x c hfn hc)))).trans e1⟩
    · by_cases hj : j = i
      · subst hj
        rw [hi] at e1; cases e1
        rw [List.getElem?_set_self hiσ] at e2
        cases e2
        exact ⟨u, r, .inr ⟨.inl hk, c, hc, hc'⟩⟩
      · rw [List.getElem?_set_ne (Ne.symm hj)] at e2
        obtain ⟨u', r', q⟩ := hl j y v' e1 e2 e3
        refine ⟨u', r', ?_⟩
        rcases q with q | ⟨k, c', e, z'⟩
        · exact .inl q
        · refine .inr ⟨k, c', e, z'.sameBut hs ?_⟩
          rintro rfl
          exact hj (nodup_ix hN e1 (I.ok.inj _ _ _ e hc ▸ hi))
    · by_cases hcc : c' = c
      · subst hcc; exact ⟨_, hc'⟩
      · obtain ⟨w2, z2⟩ := I.cell y c' e
        exact ⟨w2, z2.sameBut hs hcc⟩
    · obtain ⟨e, n, ne, nf, d⟩ := I.pin p hp
      refine ⟨(hs.2 p.1 ?_).trans e, n, ne, nf, d⟩
      intro q
      rw [q, hoc] at e
      have q' : oc = p.2 := Option.some.inj e
      exact d w' (by rw [← q']; exact hocd)
theorem store_ok {M : Model} {A : Around} {E : Value → Shared → Prop} {i : Nat} {x : Str} {v : V} {u : Value} {Q : Unit → Shared → Prop} (I : Inv X pins σ H s) (hN : X.N.Nodup) (hi : X.N[i]? = some x) (hx : Loc X.env.scope x) (r : RelV v u)
    (h : ∀ s', Inv X pins (σ.set i (some v)) H s' → Q () s') (hf : X.fn x = true ∨ X.env.scope.names.lookup x = some .local := by first | exact .inl rfl | exact .inr rfl | assumption) : wpAny M A (storeName X.env x u) Q E s :=
  store_ok2 I hN hi hx r (fun s' I' _ => h s' I') hf
theorem Inv.call' {s' : Shared} {ch : List Addr} (I : Inv X pins σ H s) (ho : s'.os = s.os) (u : Un (frs X.stack) ch H H' s.heap s'.heap) (hok : HOk X.prog X.w H' s'.heap) (hg : AllBare s'.gens)
    (hch : ∀ b ∈ ch, (b ∈ X.ex ∨ X.s₀.heap.objs.size ≤ b) ∧ b ≠ X.env.locals ∧ (∀ x c, X.env.cells.lookup x = some c → c ≠ b) ∧ ∀ p ∈ X.pn ++ pins, p.1 ≠ b) : Inv X pins σ H' s' := by
  obtain ⟨h', g', d', t', o'⟩ := s'
  have e : o' = s.os := ho
  subst e
  exact I.call (g' := g') (t' := t') (d' := d') u hok hg hch
end

/-! ### the judgements -/
abbrev XK := Value → Option Addr → Hp → Prop
abbrev St := List (Option V)
abbrev VK := V → Hp → Prop
abbrev TE := St → Hp → VK → Prop
abbrev TT := St → Hp → (Bool → Hp → Prop) → Prop
abbrev TA := St → Hp → (List V → Hp → Prop) → Prop
structure Ends where
  nx : St → Hp → Prop
  rt : VK
  bk : St → Hp → Prop := fun _ _ => False
  ct : St → Hp → Prop := fun _ _ => False
abbrev TS := Ends → St → Hp → Prop

def EP (X : Cx) (pins : List (Addr × Obj)) (σ : St) (Q : VK) (u : Value) (s' : Shared) : Prop := ∃ v H', Inv X pins σ H' s' ∧ RelV v u ∧ Q v H'
def TP (X : Cx) (pins : List (Addr × Obj)) (σ : St) (Q : Bool → Hp → Prop) (b : Bool) (s' : Shared) : Prop := ∃ H', Inv X pins σ H' s' ∧ Q b H'
def AP (X : Cx) (pins : List (Addr × Obj)) (σ : St) (Q : List V → Hp → Prop) (us : List Value) (s' : Shared) : Prop := ∃ vs H', Inv X pins σ H' s' ∧ Vals vs us ∧ Q vs H'
def SP (X : Cx) (pins : List (Addr × Obj)) (D : Ends) (f : Flow) (s' : Shared) : Prop :=
  match f with
  | .next => ∃ σ' H', Inv X pins σ' H' s' ∧ D.nx σ' H'
  | .brk => ∃ σ' H', Inv X pins σ' H' s' ∧ D.bk σ' H'
  | .cont => ∃ σ' H', Inv X pins σ' H' s' ∧ D.ct σ' H'
  | .ret u => ∃ v σ' H', Inv X pins σ' H' s' ∧ RelV v u ∧ D.rt v H'

@[irreducible] def PE (X : Cx) (e : Expr) (t : TE) : Prop :=
  ∀ (pins : List (Addr × Obj)) (s : Shared) (σ : St) (H : Hp) (Q : VK), Inv X pins σ H s → t σ H Q → wpAny (model X.prog X.w) X.A (eval e X.env) (EP X pins σ Q) X.xe s
@[irreducible] def PT (X : Cx) (e : Expr) (t : TT) : Prop :=
  ∀ (pins : List (Addr × Obj)) (s : Shared) (σ : St) (H : Hp) (Q : Bool → Hp → Prop), Inv X pins σ H s → t σ H Q → wpAny (model X.prog X.w) X.A (isTrue e X.env (eval e X.env)) (TP X pins σ Q) X.xe s
def PW (X : Cx) (e : Expr) (t : TT) : Prop :=
  ∀ (whole : Sem Value) (pins : List (Addr × Obj)) (s : Shared) (σ : St) (H : Hp) (Q : Bool → Hp → Prop), Inv X pins σ H s → t σ H Q → wpAny (model X.prog X.w) X.A (isTrue e X.env whole) (TP X pins σ Q) X.xe s
theorem PW.pt {X : Cx} {e : Expr} {t : TT} (h : PW X e t) : PT X e t := by
  with_unfolding_all
    exact h _
@[irreducible] def PA (X : Cx) (es : List Expr) (t : TA) : Prop :=
  ∀ (pos : Pos) (pins : List (Addr × Obj)) (s : Shared) (σ : St) (H : Hp) (Q : List V → Hp → Prop), Inv X pins σ H s → t σ H Q → wpAny (model X.prog X.w) X.A (spliced (backTo pos (starEach es X.env))) (AP X pins σ Q) X.xe s
@[irreducible] def PS (X : Cx) (st : Stmt) (t : TS) : Prop :=
  ∀ (pins : List (Addr × Obj)) (s : Shared) (σ : St) (H : Hp) (D : Ends), Inv X pins σ H s → t D σ H → wpAny (model X.prog X.w) X.A (exec st X.env) (SP X pins D) X.xe s
@[irreducible] def PSs (X : Cx) (st : List Stmt) (t : TS) : Prop :=
  ∀ (pins : List (Addr × Obj)) (s : Shared) (σ : St) (H : Hp) (D : Ends), Inv X pins σ H s → t D σ H → wpAny (model X.prog X.w) X.A (execs st X.env) (SP X pins D) X.xe s
theorem thn {α : Type} {t : Sem α} {Q Q' : α → Shared → Prop} {M : Model} {A : Around} {E : Value → Shared → Prop} {s : Shared} (h : wpAny M A t Q E s) (hQ : ∀ a s, Q a s → Q' a s) : wpAny M A t Q' E s := wpAny_mono h hQ fun _ _ x => x
end L2

namespace L2
open PySem PySem.Spec PyProof.Rows
section
variable {X : Cx}

/-! ### names and constants -/
def tVar (i : Nat) : TE := fun σ H Q => ∃ v, σ[i]? = some (some v) ∧ Q v H
def tC (v : V) : TE := fun _ H Q => Q v H
theorem pe_var {i : Nat} {x : Str} {pos : Pos} (hN : X.N[i]? = some x) (hv : Vis X.env.scope x) (hd : (x == ("__debug__" : Str)) = false := by decide) (hcd : (x == ("__classdict__" : Str)) = false := by decide) : PE X (.Name x pos) (tVar i) := by
  with_unfolding_all
    intro pins s σ H Q I h
    obtain ⟨v, e, h⟩ := h
    obtain ⟨m, hn, hl⟩ := I.loc
    obtain ⟨u, r, l⟩ := hl i x v hN e hv
    have fin : EP X pins σ Q u s := ⟨v, H, I, r, h⟩
    rcases l with ⟨hk, hm⟩ | ⟨hk, c, hc, hcell⟩
    · exact wpAny_Name (wpAny_loadName_local I.ok.kind hk hn hm fin) hd
    · rcases hk with hk | hk
      · exact wpAny_Name (wpAny_loadName_cell I.ok.kind hk hc hcell fin) hd
      · exact wpAny_Name (wpAny_loadName_free I.ok.kind hk hc hcell fin hcd) hd
theorem pe_int {i j pos} : PE X (.Constant (.int i) j pos) (tC (.int i)) := by
  with_unfolding_all
    exact fun _ _ _ H _ I h => wpAny_Constant_int ⟨.int i, H, I.tok _, ⟨_, rfl⟩, h⟩
theorem pe_bl {b j pos} : PE X (.Constant (.bool b) j pos) (tC (.bl b)) := by
  with_unfolding_all
    exact fun _ _ _ H _ I h => Constant_bool ⟨.bl b, H, I, rfl, h⟩
theorem pe_non {j pos} : PE X (.Constant .none j pos) (tC .non) := by
  with_unfolding_all
    exact fun _ _ _ H _ I h => Constant_none ⟨.non, H, I, rfl, h⟩
theorem pe_str {x j pos} : PE X (.Constant (.str x) j pos) (tC (.str x)) := by
  with_unfolding_all
    exact fun _ _ _ H _ I h => Calls.Constant_str ⟨.str x, H, I.tok _, ⟨_, rfl⟩, h⟩

def Gl (X : Cx) (x : Str) : Prop := X.env.kindOf x = some .globalImplicit
theorem ld_glob {E : Value → Shared → Prop} {pins : List (Addr × Obj)} {s : Shared} {σ : St} {H : Hp} {x : Str} {u : Value} {pos : Pos} {Q : Value → Shared → Prop} (I : Inv X pins σ H s) (hg : Gl X x) (hm : X.mg x = some u) (h : Q u s)
    (hd : (x == ("__debug__" : Str)) = false := by decide) : wpAny (model X.prog X.w) X.A (eval (.Name x pos) X.env) Q E s :=
  Calls.Name_function_global I.ok.kind hg (Calls.loadGlobal_global (by rw [I.ok.glob]; exact I.mod.glob.keeps I.bk) hm h) hd
theorem ld_blt {E : Value → Shared → Prop} {pins : List (Addr × Obj)} {s : Shared} {σ : St} {H : Hp} {x : Str} {u : Value} {pos : Pos} {Q : Value → Shared → Prop} (I : Inv X pins σ H s) (hg : Gl X x) (hm : X.mg x = none) (hv : bootBuiltins x = some u) (h : Q u s)
    (hn : x ≠ "__name__" := by decide) (hd : (x == ("__debug__" : Str)) = false := by decide) : wpAny (model X.prog X.w) X.A (eval (.Name x pos) X.env) Q E s := by
  obtain ⟨mb, h1, h2⟩ := I.mod.blt
  exact Calls.Name_function_global I.ok.kind hg (Calls.loadGlobal_builtin (by rw [I.ok.glob]; exact I.mod.glob.keeps I.bk) hm (by rw [I.ok.blt]; exact h1.keeps I.bk) ((h2 x hn).trans hv) h) hd
theorem pe_bltn {x : Str} {v : V} {u : Value} {pos : Pos} (hg : Gl X x) (hm : X.mg x = none) (hv : bootBuiltins x = some u) (r : RelV v u) (hn : x ≠ "__name__" := by decide) (hd : (x == ("__debug__" : Str)) = false := by decide) : PE X (.Name x pos) (tC v) := by
  with_unfolding_all
    exact fun _ _ _ H _ I h => ld_blt I hg hm hv ⟨v, H, I, r, h⟩ hn hd

/-! ### arithmetic -/
variable {a b : Expr} {ta tb : TE} {pos : Pos}
/-! ### comparisons -/
def tB (t : TE) : TT := fun σ H Q => t σ H fun x H1 => ∃ c, x = .bl c ∧ Q c H1
theorem pt_val {e : Expr} {t : TE} (h : PE X e t) (he : ∀ whole, isTrue e X.env whole = (do let v ← whole; standAt e.pos; holding [v] (truthy v)) := by intro _; rfl) : PT X e (tB t) := by
  with_unfolding_all
    intro pins s σ H Q I hw
    refine isTrue_plain (thn (h pins s σ H _ I hw) fun v s1 ⟨x, H1, I1, r1, q1⟩ => ?_) (he _)
    obtain ⟨d, rfl, q⟩ := q1
    cases r1
    exact wpAny_truthy_bool ⟨H1, I1, q⟩

/-! ### and, or, not -/
variable {tA tB' : TT} {rest : List Expr}
def tAnd (t u : TT) : TT := fun σ H Q => t σ H fun c H1 => if c = true then u σ H1 Q else Q false H1
def tOr (t u : TT) : TT := fun σ H Q => t σ H fun c H1 => if c = true then Q true H1 else u σ H1 Q
def tNot (t : TT) : TT := fun σ H Q => t σ H fun c H1 => Q (!c) H1
theorem pw_and1 (ha : PT X a tA) : PW X (.BoolOp .And [a] pos) tA := by
  with_unfolding_all
    intro wh pins s σ H Q I h
    refine isTrue_and (thn (ha pins s σ H Q I h) fun c s1 e => ?_)
    cases c with
    | true => exact isTrue_and_nil e
    | false => exact e
theorem pw_or1 (ha : PT X a tA) : PW X (.BoolOp .Or [a] pos) tA := by
  with_unfolding_all
    intro wh pins s σ H Q I h
    refine isTrue_or (thn (ha pins s σ H Q I h) fun c s1 e => ?_)
    cases c with
    | false => exact isTrue_or_nil e
    | true => exact e
theorem pw_and (ha : PT X a tA) (hb : PW X (.BoolOp .And (b :: rest) pos) tB') : PW X (.BoolOp .And (a :: b :: rest) pos) (tAnd tA tB') := by
  with_unfolding_all
    intro wh pins s σ H Q I h
    refine isTrue_and (thn (ha pins s σ H _ I h) fun c s1 ⟨H1, I1, q1⟩ => ?_)
    cases c with
    | true => exact hb wh pins s1 σ H1 Q I1 q1
    | false => exact ⟨H1, I1, q1⟩
theorem pw_or (ha : PT X a tA) (hb : PW X (.BoolOp .Or (b :: rest) pos) tB') : PW X (.BoolOp .Or (a :: b :: rest) pos) (tOr tA tB') := by
  with_unfolding_all
    intro wh pins s σ H Q I h
    refine isTrue_or (thn (ha pins s σ H _ I h) fun c s1 ⟨H1, I1, q1⟩ => ?_)
    cases c with
    | true => exact ⟨H1, I1, q1⟩
    | false => exact hb wh pins s1 σ H1 Q I1 q1
theorem pt_not (ha : PT X a tA) : PT X (.UnaryOp .Not a pos) (tNot tA) := by
  with_unfolding_all
    intro pins s σ H Q I h
    exact isTrue_not (ha pins s σ H (fun c H1 => Q (!c) H1) I h)
def tAndV (ta tb : TE) : TE := fun σ H Q => ta σ H fun x H1 => ∃ c, x = .bl c ∧ if c = true then tb σ H1 Q else Q (.bl false) H1
def tNotV (ta : TE) : TE := fun σ H Q => ta σ H fun x H1 => ∃ c, x = .bl c ∧ Q (.bl (!c)) H1
theorem pe_one {op} {t : TE} (h : PE X a t) : PE X (.BoolOp op [a] pos) t := by
  with_unfolding_all
    exact fun pins s σ H Q I hw => BoolOp_one (h pins s σ H Q I hw)
theorem pe_and (ha : PE X a ta) (hb : PE X (.BoolOp .And (b :: rest) pos) tb) : PE X (.BoolOp .And (a :: b :: rest) pos) (tAndV ta tb) := by
  with_unfolding_all
    intro pins s σ H Q I h
    refine BoolOp_and (thn (ha pins s σ H _ I h) fun v s1 ⟨x, H1, I1, r1, q1⟩ => ?_)
    obtain ⟨c, rfl, q1⟩ := q1
    cases r1
    refine wpAny_truthy_bool ?_
    cases c with
    | true => exact hb pins s1 σ H1 Q I1 q1
    | false => exact ⟨.bl false, H1, I1, rfl, q1⟩
theorem pe_not (ha : PE X a ta) : PE X (.UnaryOp .Not a pos) (tNotV ta) := by
  with_unfolding_all
    intro pins s σ H Q I h
    refine UnaryOp_ (thn (ha pins s σ H _ I h) fun v s1 ⟨x, H1, I1, r1, q1⟩ => ?_)
    obtain ⟨c, rfl, q1⟩ := q1
    cases r1
    exact not_of (wpAny_truthy_bool ⟨.bl (!c), H1, I1, rfl, q1⟩)
def tIf (t : TT) (ta tb : TE) : TE := fun σ H Q => t σ H fun c H1 => if c = true then ta σ H1 Q else tb σ H1 Q
theorem pe_ifExp {c : Expr} (hc : PT X c tA) (ha : PE X a ta) (hb : PE X b tb) : PE X (.IfExp c a b pos) (tIf tA ta tb) := by
  with_unfolding_all
    intro pins s σ H Q I h
    refine wpAny_IfExp (thn (hc pins s σ H _ I h) fun d s1 ⟨H1, I1, q1⟩ => ?_)
    cases d with
    | true => exact ha pins s1 σ H1 Q I1 q1
    | false => exact hb pins s1 σ H1 Q I1 q1
end
end L2

namespace L2
open PySem PySem.Spec PyProof.Rows

/-! ### a list, a tuple that is read: tracked, frozen, or an object of the module -/
def SqL (K : PySem.W.Frag) (H : Hp) (a : Addr) (xs : List V) : Prop :=
  Rd H a (.lst xs) ∨
    ∃ (o : Obj) (its : Array Value) (n : Nat), K.lookup a = some o ∧ o.cls = .type "list" ∧ o.dict = none ∧ o.data = .seq its n ∧ its.size ≤ sizeLine ∧ Vals xs its.toList
def SqT (K : PySem.W.Frag) (H : Hp) (a : Addr) (xs : List V) : Prop :=
  Rd H a (.tup xs) ∨
    ∃ (o : Obj) (its : Array Value) (n : Nat), K.lookup a = some o ∧ o.cls = .type "tuple" ∧ o.data = .seq its n ∧ its.size ≤ sizeLine ∧ Vals xs its.toList
def absV : Value → Option V
  | .none => some .non
  | .bool b => some (.bl b)
  | .int i _ => some (.int i)
  | .str x _ => some (.str x)
  | .bytes b _ => some (.byt b)
  | .float b _ => some (.flt b)
  | .ref a => some (.ref a)
  | .type n => some (.ty n)
  | _ => none
theorem RelV.abs {x : V} {u : Value} (r : RelV x u) : absV u = some x := by
  cases x with
  | non => cases r; rfl
  | bl _ => cases r; rfl
  | int _ => obtain ⟨t, rfl⟩ := r; rfl
  | str _ => obtain ⟨t, rfl⟩ := r; rfl
  | byt _ => obtain ⟨t, rfl⟩ := r; rfl
  | flt _ => obtain ⟨t, rfl⟩ := r; rfl
  | ref _ => cases r; rfl
  | ty _ => cases r; rfl
theorem RelV.inj {x y : V} {u : Value} (r : RelV x u) (q : RelV y u) : x = y := Option.some.inj (r.abs.symm.trans q.abs)
theorem Vals.inj : ∀ {xs ys : List V} {us : List Value}, Vals xs us → Vals ys us → xs = ys
  | _, _, _, .nil, .nil => rfl
  | _, _, _, .cons r t, .cons r' t' => by rw [r.inj r', Vals.inj t t']
section
variable {X : Cx} {pins : List (Addr × Obj)} {σ : St} {H : Hp} {s : Shared} {a : Addr} {xs ys : List V}
theorem SqL.of {K : PySem.W.Frag} (h : H a = some (.lst xs)) : SqL K H a xs := .inl (.inl h)
theorem SqT.of {K : PySem.W.Frag} (h : H a = some (.tup xs)) : SqT K H a xs := .inl (.inl h)
theorem Inv.list (I : Inv X pins σ H s) (h : SqL X.K H a xs) : ∃ its : List Value, Vals xs its ∧ PlainL s.heap a its.toArray ∧ xs.length ≤ sizeLine := by
  rcases h with h | ⟨o, its, n, hk, hc, hd, hs, hz, r⟩
  · obtain ⟨z, its, n, r, e⟩ := h.ok I.hok
    exact ⟨its, r, ⟨_, n, e, rfl, rfl, rfl⟩, z⟩
  · refine ⟨its.toList, r, ⟨o, n, I.kIn a o hk, hc, hd, by simpa using hs⟩, ?_⟩
    have e := r.length
    simp only [Array.length_toList] at e
    omega
theorem Inv.tuple (I : Inv X pins σ H s) (h : SqT X.K H a xs) : ∃ its : List Value, Vals xs its ∧ IsTup s.heap a its.toArray ∧ xs.length ≤ sizeLine := by
  rcases h with h | ⟨o, its, n, hk, hc, hs, hz, r⟩
  · obtain ⟨z, its, r, p⟩ := h.ok I.hok
    exact ⟨its, r, p, z⟩
  · refine ⟨its.toList, r, ⟨o, I.kIn a o hk, hc, n, by simpa using hs⟩, ?_⟩
    have e := r.length
    simp only [Array.length_toList] at e
    omega
theorem Inv.list_inj (I : Inv X pins σ H s) (h : SqL X.K H a xs) (h' : SqL X.K H a ys) : xs = ys := by
  obtain ⟨its, r, ⟨o, n, e, _, _, d⟩, _⟩ := I.list h
  obtain ⟨its', r', ⟨o', n', e', _, _, d'⟩, _⟩ := I.list h'
  rw [e] at e'; cases e'
  rw [d] at d'
  injection d' with d1 _
  have : its = its' := by simpa using congrArg Array.toList d1
  subst this
  exact r.inj r'
theorem Inv.tuple_inj (I : Inv X pins σ H s) (h : SqT X.K H a xs) (h' : SqT X.K H a ys) : xs = ys := by
  obtain ⟨its, r, ⟨o, e, _, n, d⟩, _⟩ := I.tuple h
  obtain ⟨its', r', ⟨o', e', _, n', d'⟩, _⟩ := I.tuple h'
  rw [e] at e'; cases e'
  rw [d] at d'
  injection d' with d1 _
  have : its = its' := by simpa using congrArg Array.toList d1
  subst this
  exact r.inj r'
end

/-! ### another wish about exceptions -/
abbrev Cx.wish (X : Cx) (E : Value → Shared → Prop) : Cx := { X with xe := E }
abbrev Cx.nox (X : Cx) : Cx := X.wish fun _ _ => False
theorem Cx.Ok.wish {X : Cx} (ok : X.Ok) (E : Value → Shared → Prop) : (X.wish E).Ok :=
  ⟨ok.mod, ok.kind, ok.glob, ok.blt, ok.above, ok.inj, ok.has, ok.cab, ok.hd, ok.frames, ok.stk, ok.exf, ok.bs, ok.bsz, ok.noex, ok.exfs, ok.funs, ok.frf⟩
theorem Cx.Ok.unwish {X : Cx} {E : Value → Shared → Prop} (ok : (X.wish E).Ok) : X.Ok :=
  ⟨ok.mod, ok.kind, ok.glob, ok.blt, ok.above, ok.inj, ok.has, ok.cab, ok.hd, ok.frames, ok.stk, ok.exf, ok.bs, ok.bsz, ok.noex, ok.exfs, ok.funs, ok.frf⟩
section
variable {X : Cx} {pins : List (Addr × Obj)} {σ : St} {H : Hp} {s : Shared} {E : Value → Shared → Prop}
theorem Inv.wish (I : Inv X pins σ H s) (E : Value → Shared → Prop) : Inv (X.wish E) pins σ H s := ⟨I.ok.wish E, I.os, I.bare, I.base, I.loc, I.cell, I.free, I.freeC, I.pin, I.hok, I.len⟩
theorem Inv.unwish (I : Inv (X.wish E) pins σ H s) : Inv X pins σ H s := ⟨I.ok.unwish, I.os, I.bare, I.base, I.loc, I.cell, I.free, I.freeC, I.pin, I.hok, I.len⟩
theorem SP.unwish {D : Ends} {f : Flow} {s' : Shared} (h : SP (X.wish E) pins D f s') : SP X pins D f s' := by
  cases f with
  | next => obtain ⟨σ', H', I, q⟩ := h; exact ⟨σ', H', I.unwish, q⟩
  | brk => obtain ⟨σ', H', I, q⟩ := h; exact ⟨σ', H', I.unwish, q⟩
  | cont => obtain ⟨σ', H', I, q⟩ := h; exact ⟨σ', H', I.unwish, q⟩
  | ret u => obtain ⟨v, σ', H', I, r, q⟩ := h; exact ⟨v, σ', H', I.unwish, r, q⟩
theorem PSs.nox {st : List Stmt} {t : TS} (h : PSs X.nox st t) : PSs X st t := by
  with_unfolding_all
    exact fun pins s σ H D I hw =>
      wpAny_mono (h pins s σ H D (I.wish _) hw) (fun _ _ q => q.unwish) fun _ _ z => False.elim z
end

/-! ### blocks and small statements -/
section
variable {X : Cx} {st : Stmt} {rest : List Stmt} {t u : TS} {e : Expr} {te : TE} {pos : Pos}
def tNext : TS := fun D σ H => D.nx σ H
def tSeq (t u : TS) : TS := fun D σ H => t { D with nx := u D } σ H
theorem pss_nil : PSs X [] tNext := by
  with_unfolding_all
    exact fun _ _ σ H _ I h => wpAny_execs_nil ⟨σ, H, I, h⟩
theorem pss_cons (h1 : PS X st t) (h2 : PSs X rest u) : PSs X (st :: rest) (tSeq t u) := by
  with_unfolding_all
    intro pins s σ H D I h
    refine wpAny_execs_cons (thn (h1 pins s σ H { D with nx := u D } I h) fun f s1 q => ?_)
    cases f with
    | next =>
      obtain ⟨σ', H', I', q⟩ := q
      exact h2 pins s1 σ' H' D I' q
    | ret v => exact q
    | brk => exact q
    | cont => exact q
theorem pss_one (h1 : PS X st t) : PSs X [st] t := by
  with_unfolding_all
    intro pins s σ H D I h
    refine wpAny_execs_cons (thn (h1 pins s σ H D I h) fun f s1 q => ?_)
    cases f with
    | next => exact wpAny_execs_nil q
    | ret v => exact q
    | brk => exact q
    | cont => exact q
theorem Inv.quiet {pins : List (Addr × Obj)} {σ : St} {H : Hp} {s : Shared} (I : Inv X pins σ H s) : interactive X.env = false := by simp [interactive, I.ok.kind]
def tDrop (te : TE) : TS := fun D σ H => te σ H fun _ H1 => D.nx σ H1
theorem ps_expr (he : PE X e te) (hs : swapsWith e none pos.line X.env = pure false := by rfl) : PS X (.Expr e pos) (tDrop te) := by
  with_unfolding_all
    intro pins s σ H D I h
    exact wpAny_Expr_any (thn (he pins s σ H _ I h) fun v s1 ⟨x, H1, I1, r1, q1⟩ => ⟨σ, H1, I1, q1⟩) I.quiet hs
def tRet (te : TE) : TS := fun D σ H => te σ H D.rt
theorem ps_ret (he : PE X e te) : PS X (.Return (some e) pos) (tRet te) := by
  with_unfolding_all
    intro pins s σ H D I h
    exact wpAny_Return_some (thn (he pins s σ H _ I h) fun v s1 ⟨x, H1, I1, r1, q1⟩ => ⟨x, σ, H1, I1, r1, q1⟩)
def tIfS (c : TT) (t u : TS) : TS := fun D σ H => c σ H fun b H1 => if b = true then t D σ H1 else u D σ H1
theorem ps_if {c : Expr} {a b : List Stmt} {tc : TT} (hc : PT X c tc) (ha : PSs X a t) (hb : PSs X b u) : PS X (.If c a b pos) (tIfS tc t u) := by
  with_unfolding_all
    intro pins s σ H D I h
    refine wpAny_If (thn (hc pins s σ H _ I h) fun d s1 ⟨H1, I1, q1⟩ => ?_)
    cases d with
    | true => exact ha pins s1 σ H1 D I1 q1
    | false => exact hb pins s1 σ H1 D I1 q1
def tNever : TS := fun _ _ _ => False
theorem ps_never : PS X st tNever := by
  with_unfolding_all
    exact fun _ _ _ _ _ _ h => h.elim
end

/-! ### targets -/
abbrev TG := V → St → Hp → (St → Hp → Prop) → Prop
abbrev TGs := List V → St → Hp → (St → Hp → Prop) → Prop
def PG (X : Cx) (target : Expr) (t : TG) : Prop :=
  ∀ (pins : List (Addr × Obj)) (s : Shared) (σ : St) (H : Hp) (v : V) (u : Value) (Q : St → Hp → Prop), Inv X pins σ H s → RelV v u → t v σ H Q →
    wpAny (model X.prog X.w) X.A (assign target X.env u) (fun _ s' => ∃ σ' H', Inv X pins σ' H' s' ∧ Q σ' H') X.xe s
def PGs (X : Cx) (ts : List Expr) (t : TGs) : Prop :=
  ∀ (pins : List (Addr × Obj)) (s : Shared) (σ : St) (H : Hp) (vs : List V) (us : List Value) (Q : St → Hp → Prop), Inv X pins σ H s → Vals vs us → t vs σ H Q →
    wpAny (model X.prog X.w) X.A (assignInOrder ((assignEach ts X.env).map (·.2)) us) (fun _ s' => ∃ σ' H', Inv X pins σ' H' s' ∧ Q σ' H') X.xe s
abbrev TSet := V → V → V → Hp → (Hp → Prop) → Prop
def PSet (X : Cx) (t : TSet) : Prop :=
  ∀ (pins : List (Addr × Obj)) (s : Shared) (σ : St) (H : Hp) (o i v : V) (ov iv u : Value) (Q : Hp → Prop), Inv X pins σ H s → RelV o ov → RelV i iv → RelV v u → t o i v H Q →
    wpAny (model X.prog X.w) X.A (setItem ov iv u) (fun _ s' => ∃ H', Inv X pins σ H' s' ∧ Q H') X.xe s
abbrev TIp := V → V → Hp → VK → Prop
def PIp (X : Cx) (op : Operator) (t : TIp) : Prop :=
  ∀ (pins : List (Addr × Obj)) (s : Shared) (σ : St) (H : Hp) (x y : V) (v u : Value) (Q : VK), Inv X pins σ H s → RelV x v → RelV y u → t x y H Q →
    wpAny (model X.prog X.w) X.A (inplaceOp op v u) (EP X pins σ Q) X.xe s
section
variable {X : Cx} {pos : Pos}
def gName (i : Nat) : TG := fun v σ H Q => Q (σ.set i (some v)) H
theorem pg_name {i : Nat} {x : Str} (hN : X.N.Nodup) (hi : X.N[i]? = some x) (hx : Loc X.env.scope x) (hf : X.fn x = true ∨ X.env.scope.names.lookup x = some .local := by first | exact .inl rfl | exact .inr rfl | assumption) : PG X (.Name x pos) (gName i) := by
  intro pins s σ H v u Q I r h
  exact wpAny_assign_Name (store_ok I hN hi hx r (fun s' I' => ⟨_, H, I', h⟩) hf)
def gNil : TGs := fun vs σ H Q => vs = [] ∧ Q σ H
def gCons (t : TG) (u : TGs) : TGs := fun vs σ H Q => ∃ v r, vs = v :: r ∧ t v σ H fun σ' H' => u r σ' H' Q
theorem pgs_nil : PGs X [] gNil := by
  intro pins s σ H vs us Q I r h
  obtain ⟨e, h⟩ := h
  subst e
  cases r
  exact assignInOrder_nil ⟨σ, H, I, h⟩
theorem pgs_cons {e : Expr} {es : List Expr} {t : TG} {u : TGs} (h1 : PG X e t) (h2 : PGs X es u)
    (hs : (assignEach (e :: es) X.env).map (·.2) = assign e X.env :: (assignEach es X.env).map (·.2) := by rfl) : PGs X (e :: es) (gCons t u) := by
  intro pins s σ H vs us Q I r h
  obtain ⟨v, vr, e1, h⟩ := h
  subst e1
  cases r with
  | cons r rr =>
    rw [hs]
    refine assignInOrder_cons (thn (h1 pins s σ H _ _ _ I r h) fun _ s1 ⟨σ1, H1, I1, q1⟩ => ?_)
    exact h2 pins s1 σ1 H1 _ _ Q I1 rr q1
def gTup (K : PySem.W.Frag) (n : Nat) (t : TGs) : TG := fun v σ H Q => ∃ a xs, v = .ref a ∧ SqT K H a xs ∧ xs.length = n ∧ t xs σ H Q
theorem pg_tup {es : List Expr} {k : Nat} {t : TGs} {n : Nat} (hc : X.calm = true) (h : PGs X es t)
    (hn : (assignEach es X.env).length = n := by rfl) (hst : (assignEach es X.env).findIdx? (·.1) = none := by rfl) : PG X (.Tuple es k pos) (gTup X.K n t) := by
  intro pins s σ H v u Q I r hw
  obtain ⟨a, xs, e1, hq, hl, hw⟩ := hw
  subst e1
  cases r
  obtain ⟨its, rv, ht, hz⟩ := I.tuple hq
  refine assign_Tuple_tuple (I.ok.hd hc) ht (by simp [hn, ← hl, rv.length]) hst fun h' hx => ?_
  have I1 : Inv X pins σ H { s with heap := h' } := I.kept (t' := s.toks) fun b o e => hx b o (Nat.ne_of_lt (Heap.lt_size e)) e
  exact h pins _ σ H xs _ Q I1 (by simpa using rv) hw
def gSub (to ti : TE) (t : TSet) : TG := fun v σ H Q => to σ H fun o H1 => ti σ H1 fun i H2 => t o i v H2 fun H3 => Q σ H3
theorem pg_sub {o i : Expr} {to ti : TE} {t : TSet} (ho : PE X o to) (hi : PE X i ti) (hs : PSet X t)
    (ha : ∀ v, assign (.Subscript o i pos) X.env v = (do
      let ov ← holding [v] (eval o X.env)
      let iv ← holding [v, ov] (eval i X.env)
      standAt pos
      holding [v, ov, iv] (setItem ov iv v)
      release [v, ov, iv] []) := by intro _; rfl) : PG X (.Subscript o i pos) (gSub to ti t) := by
  with_unfolding_all
    intro pins s σ H v u Q I r h
    rw [ha]
    refine wpAny_bind (wpAny_holding (thn (ho pins s σ H _ I h) fun ov s1 ⟨x, H1, I1, r1, q1⟩ => ?_))
    refine wpAny_bind (wpAny_holding (thn (hi pins s1 σ H1 _ I1 q1) fun iv s2 ⟨y, H2, I2, r2, q2⟩ => ?_))
    refine wpAny_bind (wpAny_standAt (wpAny_bind (wpAny_holding (thn (hs pins s2 σ H2 x y v ov iv u _ I2 r1 r2 r q2) fun _ s3 ⟨H3, I3, q3⟩ => ?_))))
    exact wpAny_release ⟨σ, H3, I3, q3⟩
def tAsg (te : TE) (g : TG) : TS := fun D σ H => te σ H fun x H1 => g x σ H1 D.nx
theorem ps_asg {tg e : Expr} {te : TE} {g : TG} (he : PE X e te) (hg : PG X tg g) (hs : swapsWithSole [tg] e pos.line X.env = pure false := by rfl) (hw : swappedStores [tg] e X.env = pure none := by rfl)
    (h1 : (assignEach [tg] X.env).map (·.2) = [assign tg X.env] := by rfl) : PS X (.Assign [tg] e pos) (tAsg te g) := by
  with_unfolding_all
    intro pins s σ H D I h
    refine wpAny_Assign_stores (thn (he pins s σ H _ I h) fun v s1 ⟨x, H1, I1, r1, q1⟩ => ?_) hs hw
    rw [h1]
    exact thn (hg pins s1 σ H1 x v _ I1 r1 q1) fun _ s2 q => q
theorem ps_set {i : Nat} {x : Str} {e : Expr} {te : TE} {pos' : Pos} (hN : X.N.Nodup) (hi : X.N[i]? = some x) (hx : Loc X.env.scope x) (he : PE X e te) (hs : swapsWith e (some (.Name x pos')) pos.line X.env = pure false := by rfl) (hf : X.fn x = true ∨ X.env.scope.names.lookup x = some .local := by first | exact .inl rfl | exact .inr rfl | assumption) :
    PS X (.Assign [.Name x pos'] e pos) (tAsg te (gName i)) := by
  with_unfolding_all
    intro pins s σ H D I h
    refine wpAny_Assign_Name (thn (he pins s σ H _ I h) fun v s1 ⟨y, H1, I1, r1, q1⟩ => ?_) hs
    exact store_ok I1 hN hi hx r1 (fun s2 I2 => ⟨_, H1, I2, q1⟩) hf
def tAug (i : Nat) (te : TE) (ti : TIp) : TS := fun D σ H => ∃ x, σ[i]? = some (some x) ∧ te σ H fun y H1 => ti x y H1 fun z H2 => D.nx (σ.set i (some z)) H2
theorem ps_aug {i : Nat} {x : Str} {e : Expr} {te : TE} {op : Operator} {ti : TIp} {pos' : Pos} (hN : X.N.Nodup) (hi : X.N[i]? = some x) (hx : Loc X.env.scope x) (he : PE X e te) (ho : PIp X op ti) (hf : X.fn x = true ∨ X.env.scope.names.lookup x = some .local := by first | exact .inl rfl | exact .inr rfl | assumption) :
    PS X (.AugAssign (.Name x pos') op e pos) (tAug i te ti) := by
  with_unfolding_all
    intro pins s σ H D I h
    obtain ⟨v, e1, h⟩ := h
    obtain ⟨m, hn, hl⟩ := I.loc
    have vis : Vis X.env.scope x := by rcases hx with k | k; exact .inl k; exact .inr (.inl k)
    obtain ⟨u, r, l⟩ := hl i x v hi e1 vis
    refine wpAny_AugAssign_Name ?_
    have go : wpAny (model X.prog X.w) X.A (eval e X.env) (fun w s₂ => wpAny (model X.prog X.w) X.A (inplaceOp op u w) (fun r s₃ => wpAny (model X.prog X.w) X.A (storeName X.env x r) (fun _ => SP X pins D .next) X.xe s₃) X.xe s₂) X.xe s := by
      refine thn (he pins s σ H _ I h) fun w s1 ⟨y, H1, I1, r1, q1⟩ => ?_
      refine thn (ho pins s1 σ H1 v y u w _ I1 r r1 q1) fun z s2 ⟨zv, H2, I2, r2, q2⟩ => ?_
      exact store_ok I2 hN hi hx r2 (fun s3 I3 => ⟨_, H2, I3, q2⟩) hf
    rcases l with ⟨hk, hm⟩ | ⟨hk, c, hc, hcell⟩
    · exact wpAny_loadName_local I.ok.kind hk hn hm go
    · rcases hk with hk | hk
      · exact wpAny_loadName_cell I.ok.kind hk hc hcell go
      · rcases hx with k | k
        · have : X.env.scope.names.lookup x = some .free := hk
          rw [k] at this; cases this
        · have : X.env.scope.names.lookup x = some .free := hk
          rw [k] at this; cases this
def ipI (f : Int → Int → Int) : TIp := fun x y H Q => ∃ i j, x = .int i ∧ y = .int j ∧ Q (.int (f i j)) H
theorem ip_add : PIp X .Add (ipI fun i j => i + j) := by
  intro pins s σ H x y v u Q I r1 r2 h
  obtain ⟨i, j, e1, e2, q⟩ := h
  subst e1; subst e2
  obtain ⟨t, rfl⟩ := r1
  obtain ⟨t', rfl⟩ := r2
  exact iadd_int ⟨.int _, H, I.tok _, ⟨_, rfl⟩, q⟩
end

/-! ### while -/
section
variable {X : Cx} {pos : Pos}
def tWhile (c : TT) (tb : TS) : TS := fun D σ H => ∃ W : Nat → St → Hp → Prop, (∃ m, W m σ H) ∧ ∀ m σ H, W m σ H →
  c σ H fun b H1 => if b = true then ∃ N : St → Hp → Prop, (∀ σ' H', N σ' H' → ∃ m', m' < m ∧ W m' σ' H') ∧ tb { D with nx := N, ct := N, bk := D.nx } σ H1 else D.nx σ H1
theorem ps_while {c : Expr} {body : List Stmt} {tc : TT} {tb : TS} (hp : PassesOwn (model X.prog X.w) X.A X.env X.xe) (hc : PT X c tc) (hb : PSs X body tb) : PS X (.While c body [] pos) (tWhile tc tb) := by
  with_unfolding_all
    intro pins s σ H D I h
    obtain ⟨W, ⟨m0, w0⟩, turn⟩ := h
    refine wpAny_While (codeAny_whileLoop (fun n s' => ∃ σ' H', Inv X pins σ' H' s' ∧ W n σ' H') ?_ m0 ⟨σ, H, I, w0⟩)
    rintro n s1 ⟨σ1, H1, I1, w1⟩
    refine wpAny_passesOwn hp (thn (hc pins s1 σ1 H1 _ I1 (turn n σ1 H1 w1)) fun b s2 ⟨H2, I2, q2⟩ => ?_)
    cases b with
    | true =>
      obtain ⟨N, hN, q2⟩ := q2
      rw [if_pos rfl]
      refine wpAny_passesOwn hp (thn (hb pins s2 σ1 H2 _ I2 q2) fun f s3 q3 => ?_)
      cases f with
      | next =>
        obtain ⟨σ3, H3, I3, n3⟩ := q3
        obtain ⟨m', hm, w3⟩ := hN σ3 H3 n3
        exact ⟨m', hm, σ3, H3, I3, w3⟩
      | cont =>
        obtain ⟨σ3, H3, I3, n3⟩ := q3
        obtain ⟨m', hm, w3⟩ := hN σ3 H3 n3
        exact ⟨m', hm, σ3, H3, I3, w3⟩
      | brk => exact q3
      | ret v => exact q3
    | false =>
      rw [if_neg Bool.false_ne_true]
      exact wpAny_execs_nil ⟨σ1, H2, I2, q2⟩
end

/-! ### what a loop or a comprehension walks -/
structure It where
  go : Nat → Hp → Prop
  yld : Nat → Hp → V → Hp → Prop
  stop : Nat → Hp → Prop
def FpOk (X : Cx) (pins : List (Addr × Obj)) (H : Hp) (b : Addr) : Prop :=
  H b = none ∧ b ≠ X.env.locals ∧ b ∉ X.fs ∧ (b ∈ X.ex ∨ X.s₀.heap.objs.size ≤ b) ∧ (∀ x c, X.env.cells.lookup x = some c → c ≠ b) ∧ ∀ p ∈ X.pn ++ pins, p.1 ≠ b
theorem Inv.fpOk {X : Cx} {pins : List (Addr × Obj)} {σ : St} {H H' : Hp} {s : Shared} {b : Addr} (I : Inv X pins σ H s) (hb : s.heap.objs.size ≤ b) (hn : H' b = none) : FpOk X pins H' b := by
  refine ⟨hn, Nat.ne_of_gt (Nat.lt_of_lt_of_le I.lt hb), I.nofs hb, .inr (Nat.le_trans I.sz hb), fun x c e z => ?_, fun p hp z => ?_⟩
  · obtain ⟨v, q⟩ := I.cell x c e
    exact absurd (Nat.lt_of_lt_of_le q.lt (by rw [z]; exact hb)) (Nat.lt_irrefl _)
  · exact absurd (Nat.lt_of_lt_of_le (Heap.lt_size (I.pin p hp).1) (by rw [z]; exact hb)) (Nat.lt_irrefl _)
structure Turn (P : Program) (w : World) (K : PySem.W.Frag) (tg : Expr) (J : It) (fp : List Addr) (it : Addr) (tn : Nat → Heap → Prop) : Prop where
  mem : it ∈ fp
  obj : ∀ i h, tn i h → ∀ b ∈ fp, ∃ o, h.get? b = some o ∧ ∀ v, o.data ≠ .cell v
  keep : ∀ i h h', tn i h → (∀ b ∈ fp, ∀ o, h.get? b = some o → h'.get? b = some o) → tn i h'
  item : ∀ (X : Cx), X.prog = P → X.w = w → X.K = K → X.calm = true → ∀ (i : Nat) (pins : List (Addr × Obj)) (s : Shared) (σ : St) (H : Hp) (E : Value → Shared → Prop), Inv X pins σ H s → (∀ b ∈ fp, FpOk X pins H b) → tn i s.heap → J.go i H →
    wpAny (model P w) X.A (pyNext (.ref it)) (fun r s1 => ∃ u, r = some u ∧
      wpAny (model P w) X.A (letOwnedTupleGo tg (.ref it) u) (fun _ s2 => ∃ x H', Inv X pins σ H' s2 ∧ RelV x u ∧ J.yld i H x H' ∧ tn (i + 1) s2.heap ∧ ∀ b ∈ fp, H' b = none) E s1) E s
  done : ∀ (X : Cx), X.prog = P → X.w = w → X.K = K → X.calm = true → ∀ (i : Nat) (pins : List (Addr × Obj)) (s : Shared) (σ : St) (H : Hp) (E : Value → Shared → Prop), Inv X pins σ H s → (∀ b ∈ fp, FpOk X pins H b) → tn i s.heap → J.stop i H →
    wpAny (model P w) X.A (pyNext (.ref it)) (fun r s1 => r = none ∧ Inv X pins σ H s1) E s
  self : ∀ (A : Around) (i : Nat) (s : Shared) (Q : Value → Shared → Prop) (E : Value → Shared → Prop), tn i s.heap → Q (.ref it) s → wpAny (model P w) A (pyIter (.ref it)) Q E s
abbrev TI := St → Hp → (It → Hp → Prop) → Prop
def PIE (X : Cx) (pins : List (Addr × Obj)) (σ : St) (tg : Expr) (R : It → Hp → Prop) (itv : Value) (s2 : Shared) : Prop :=
  ∃ (it : Addr) (fp : List Addr) (tn : Nat → Heap → Prop) (J : It) (H' : Hp), itv = .ref it ∧ Inv X pins σ H' s2 ∧ Turn X.prog X.w X.K tg J fp it tn ∧ tn 0 s2.heap ∧ (∀ b ∈ fp, FpOk X pins H' b) ∧ R J H'
def PI (X : Cx) (tg iter : Expr) (wi : TI) : Prop :=
  ∀ (pins : List (Addr × Obj)) (s : Shared) (σ : St) (H : Hp) (R : It → Hp → Prop), Inv X pins σ H s → wi σ H R →
    wpAny (model X.prog X.w) X.A (eval iter X.env) (fun v s1 => wpAny (model X.prog X.w) X.A (pyIter v) (PIE X pins σ tg R) X.xe s1) X.xe s

theorem go_of {M : Model} {A : Around} {E : Value → Shared → Prop} {s : Shared} {tg : Expr} {it : Addr} {u : Value} {o : Obj} {n : String} {vs : Array Value} {Q : Unit → Shared → Prop} (ho : s.heap.get? it = some o) (hc : o.cls = .type n) (hd : o.data = .fields vs)
    (hn : ["enumerate", "zip", "dict_itemiterator", "dict_reverseitemiterator", "odict_iterator", "itertools.zip_longest", "itertools.pairwise"].contains n = false) (hQ : Q () s) : wpAny M A (letOwnedTupleGo tg (.ref it) u) Q E s := by
  unfold letOwnedTupleGo
  cases tg <;> first
    | exact wpAny_pure hQ
    | (cases u <;> first
        | exact wpAny_pure hQ
        | (refine wpAny_bind (wpAny_load ho ?_)
           rw [hc, hd]
           show wpAny M A (if (["enumerate", "zip", "dict_itemiterator", "dict_reverseitemiterator", "odict_iterator", "itertools.zip_longest", "itertools.pairwise"].contains n && vs[0]? == some (rawInt _)) = true then _ else _) Q E s
           rw [if_neg (by intro h; rw [hn, Bool.false_and] at h; cases h)]
           exact wpAny_pure hQ))

def Itl (K : PySem.W.Frag) (a : Addr) : It :=
  ⟨fun i H => ∃ xs x, SqL K H a xs ∧ xs[i]? = some x, fun i H x H' => H' = H ∧ ∀ xs, SqL K H a xs → xs[i]? = some x, fun i H => ∃ xs, SqL K H a xs ∧ xs.length ≤ i⟩
def Itt (K : PySem.W.Frag) (a : Addr) : It :=
  ⟨fun i H => ∃ xs x, SqT K H a xs ∧ xs[i]? = some x, fun i H x H' => H' = H ∧ ∀ xs, SqT K H a xs → xs[i]? = some x, fun i H => ∃ xs, SqT K H a xs ∧ xs.length ≤ i⟩
def Itr (lo : Int) (n : Nat) : It := ⟨fun i _ => i < n, fun i H x H' => H' = H ∧ x = .int (lo + i), fun i _ => n ≤ i⟩
theorem turn_list {P : Program} {w : World} {K : PySem.W.Frag} {tg : Expr} (a it : Addr) : Turn P w K tg (Itl K a) [it] it (fun i h => h.IsListIter it a i) where
  mem := by simp
  obj := fun i h st b hb => by
    have e : b = it := by simpa using hb
    subst e
    obtain ⟨o, e, c, d⟩ := st
    exact ⟨o, e, fun v z => by rw [d] at z; cases z⟩
  keep := fun i h h' st k => st.at fun o e => k it (by simp) o e
  item := by
    intro X hP hw hK hc i pins s σ H E I hf st hg
    subst hP hw hK
    obtain ⟨xs, x, hq, hx⟩ := hg
    obtain ⟨its, rv, p, hz⟩ := I.list hq
    obtain ⟨u, hu, ru⟩ := rv.get hx
    obtain ⟨f0, f1, f2, f3, f4, f5⟩ := hf it (by simp)
    refine wpAny_pyNext_list_item st p.isList (x := u) (by simpa using hu) fun h' st' sb => ?_
    have I1 : Inv X pins σ H { s with heap := h' } := I.turned (t' := s.toks) (fun b o hb e => (sb.2 b hb).trans e) f0 f1 f3 f4 f5
    obtain ⟨o, e, c, d⟩ := id st'
    exact ⟨u, rfl, go_of (s := { s with heap := h' }) e c d (by decide) ⟨x, H, I1, ru, ⟨rfl, fun ys hy => by rw [I.list_inj hy hq]; exact hx⟩, st', fun b hb => (hf b hb).1⟩⟩
  done := by
    intro X hP hw hK hc i pins s σ H E I hf st hg
    subst hP hw hK
    obtain ⟨xs, hq, hx⟩ := hg
    obtain ⟨its, rv, p, hz⟩ := I.list hq
    obtain ⟨f0, f1, f2, f3, f4, f5⟩ := hf it (by simp)
    have hl := rv.length
    exact wpAny_pyNext_list_end (I.ok.hd hc) st p.isList (by simp; omega) fun h' eb => ⟨rfl, I.turned (t' := s.toks) (fun b o hb e => eb b o hb e) f0 f1 f3 f4 f5⟩
  self := fun _ _ _ _ _ st h => wpAny_pyIter_listiter st h
theorem turn_tuple {P : Program} {w : World} {K : PySem.W.Frag} {tg : Expr} (a it : Addr) : Turn P w K tg (Itt K a) [it] it (fun i h => h.IsTupleIter it a i) where
  mem := by simp
  obj := fun i h st b hb => by
    have e : b = it := by simpa using hb
    subst e
    obtain ⟨o, e, c, d⟩ := st
    exact ⟨o, e, fun v z => by rw [d] at z; cases z⟩
  keep := fun i h h' st k => st.at fun o e => k it (by simp) o e
  item := by
    intro X hP hw hK hc i pins s σ H E I hf st hg
    subst hP hw hK
    obtain ⟨xs, x, hq, hx⟩ := hg
    obtain ⟨its, rv, p, hz⟩ := I.tuple hq
    obtain ⟨u, hu, ru⟩ := rv.get hx
    obtain ⟨f0, f1, f2, f3, f4, f5⟩ := hf it (by simp)
    refine wpAny_pyNext_tuple_item st (show s.heap.IsTuple a its.toArray from p) (x := u) (by simpa using hu) fun h' st' sb => ?_
    have I1 : Inv X pins σ H { s with heap := h' } := I.turned (t' := s.toks) (fun b o hb e => (sb.2 b hb).trans e) f0 f1 f3 f4 f5
    obtain ⟨o, e, c, d⟩ := id st'
    exact ⟨u, rfl, go_of (s := { s with heap := h' }) e c d (by decide) ⟨x, H, I1, ru, ⟨rfl, fun ys hy => by rw [I.tuple_inj hy hq]; exact hx⟩, st', fun b hb => (hf b hb).1⟩⟩
  done := by
    intro X hP hw hK hc i pins s σ H E I hf st hg
    subst hP hw hK
    obtain ⟨xs, hq, hx⟩ := hg
    obtain ⟨its, rv, p, hz⟩ := I.tuple hq
    obtain ⟨f0, f1, f2, f3, f4, f5⟩ := hf it (by simp)
    have hl := rv.length
    exact wpAny_pyNext_tuple_end (I.ok.hd hc) st (show s.heap.IsTuple a its.toArray from p) (by simp; omega) fun h' eb => ⟨rfl, I.turned (t' := s.toks) (fun b o hb e => eb b o hb e) f0 f1 f3 f4 f5⟩
  self := fun _ _ _ _ _ st h => wpAny_pyIter_tupleiter st h
theorem turn_range {P : Program} {w : World} {K : PySem.W.Frag} {tg : Expr} (it : Addr) (lo : Int) (n : Nat) : Turn P w K tg (Itr lo n) [it] it (fun i h => IsRangeIter h it (lo + (i : Nat) * 1) ((n : Int) - (i : Nat)) 1) where
  mem := by simp
  obj := fun i h st b hb => by
    have e : b = it := by simpa using hb
    subst e
    exact ⟨_, st, fun v z => by
      have z' : Data.fields _ = Data.cell v := z
      cases z'⟩
  keep := fun i h h' st k => k it (by simp) _ st
  item := by
    intro X hP hw hK hc i pins s σ H E I hf st hg
    subst hP hw hK
    obtain ⟨f0, f1, f2, f3, f4, f5⟩ := hf it (by simp)
    have W := Walks.range (prog := X.prog) (w := X.w) (I.ok.hd hc) it lo 1 n
    refine W.item i s _ _ hg st fun v h' tk hv st' kk => ?_
    obtain ⟨t, rfl⟩ := hv
    have I1 : Inv X pins σ H { s with heap := h', toks := tk } := I.turned (fun b o hb e => kk b o (by simpa using hb) e) f0 f1 f3 f4 f5
    refine ⟨_, rfl, go_of (s := { s with heap := h', toks := tk }) (n := "range_iterator") st' rfl rfl (by decide) ⟨.int (lo + i), H, I1, ⟨t, ?_⟩, ⟨rfl, rfl⟩, st', fun b hb => (hf b hb).1⟩⟩
    rw [Int.mul_one]
  done := by
    intro X hP hw hK hc i pins s σ H E I hf st hg
    subst hP hw hK
    obtain ⟨f0, f1, f2, f3, f4, f5⟩ := hf it (by simp)
    exact wpAny_pyNext_range_end (I.ok.hd hc) st (by have : n ≤ i := hg; omega) fun h' eb => ⟨rfl, I.turned (t' := s.toks) (fun b o hb e => eb b o hb e) f0 f1 f3 f4 f5⟩
  self := fun _ _ _ _ _ st h => wpAny_pyIter_rangeiter st h
end L2

namespace L2
open PySem PySem.Spec PyProof.Rows
section
variable {X : Cx} {tg : Expr}
def iList (K : PySem.W.Frag) (tl : TE) : TI := fun σ H R => tl σ H fun x H1 => ∃ a, x = .ref a ∧ (∃ xs, SqL K H1 a xs) ∧ R (Itl K a) H1
def iTup (K : PySem.W.Frag) (tl : TE) : TI := fun σ H R => tl σ H fun x H1 => ∃ a, x = .ref a ∧ (∃ xs, SqT K H1 a xs) ∧ R (Itt K a) H1
theorem pi_list {l : Expr} {tl : TE} (hl : PE X l tl) : PI X tg l (iList X.K tl) := by
  with_unfolding_all
    intro pins s σ H R I h
    refine thn (hl pins s σ H _ I h) fun v s1 ⟨x, H1, I1, r1, q1⟩ => ?_
    obtain ⟨a, e, ⟨xs, hq⟩, q⟩ := q1
    subst e
    cases r1
    obtain ⟨its, rv, p, hz⟩ := I1.list hq
    refine wpAny_pyIter_list p.isList ?_
    refine ⟨s1.heap.objs.size, [s1.heap.objs.size], _, _, H1, rfl, I1.kept (t' := s1.toks) fun b o e => Heap.get?_push_of_some _ e, turn_list a _, ⟨_, Heap.get?_push_size _ rfl, rfl, rfl⟩, fun b hb => ?_, q⟩
    have e : b = s1.heap.objs.size := by simpa using hb
    subst e
    exact I1.fpOk (Nat.le_refl _) (I1.hok.fresh (Nat.le_refl _))
theorem pi_tup {l : Expr} {tl : TE} (hl : PE X l tl) : PI X tg l (iTup X.K tl) := by
  with_unfolding_all
    intro pins s σ H R I h
    refine thn (hl pins s σ H _ I h) fun v s1 ⟨x, H1, I1, r1, q1⟩ => ?_
    obtain ⟨a, e, ⟨xs, hq⟩, q⟩ := q1
    subst e
    cases r1
    obtain ⟨its, rv, p, hz⟩ := I1.tuple hq
    refine wpAny_pyIter_tuple (show s1.heap.IsTuple a its.toArray from p) ?_
    refine ⟨s1.heap.objs.size, [s1.heap.objs.size], _, _, H1, rfl, I1.kept (t' := s1.toks) fun b o e => Heap.get?_push_of_some _ e, turn_tuple a _, ⟨_, Heap.get?_push_size _ rfl, rfl, rfl⟩, fun b hb => ?_, q⟩
    have e : b = s1.heap.objs.size := by simpa using hb
    subst e
    exact I1.fpOk (Nat.le_refl _) (I1.hok.fresh (Nat.le_refl _))
theorem range_it {pins : List (Addr × Obj)} {σ : St} {H : Hp} {s : Shared} {R : It → Hp → Prop} {E : Value → Shared → Prop} {lo hi : Int} {t u v : Tok} {tk : Nat} (I : Inv X pins σ H s) (h1 : -(2 ^ 62) ≤ lo) (h2 : lo < 2 ^ 62) (h3 : -(2 ^ 62) ≤ hi) (h4 : hi < 2 ^ 62)
    (q : R (Itr lo (hi - lo).toNat) H) : wpAny (model X.prog X.w) X.A (pyIter (.ref s.heap.objs.size)) (PIE X pins σ tg R) E { s with heap := s.heap.push { cls := .type "range", data := .fields #[.int lo t, .int hi u, .int 1 v] }, toks := tk } := by
  refine wpAny_pyIter_range (IsRange.new ..) (small_one h1 h2 h3 h4) ?_
  have I1 : Inv X pins σ H { s with heap := s.heap.push { cls := .type "range", data := .fields #[.int lo t, .int hi u, .int 1 v] }, toks := tk } := I.kept fun b o e => Heap.get?_push_of_some _ e
  refine ⟨(s.heap.push { cls := .type "range", data := .fields #[.int lo t, .int hi u, .int 1 v] }).objs.size, [(s.heap.push { cls := .type "range", data := .fields #[.int lo t, .int hi u, .int 1 v] }).objs.size], _, _, H, rfl,
    I1.kept (t' := tk) fun b o e => Heap.get?_push_of_some _ e, turn_range _ lo (hi - lo).toNat, ?_, fun b hb => ?_, q⟩
  · have e1 : lo + ((0 : Nat) : Int) * 1 = lo := by simp
    have e2 : (((hi - lo).toNat : Nat) : Int) - ((0 : Nat) : Int) = Builtin.Range.rangeSize lo hi 1 := by rw [rangeSize_one]; split <;> omega
    show IsRangeIter _ _ (lo + ((0 : Nat) : Int) * 1) ((((hi - lo).toNat : Nat) : Int) - ((0 : Nat) : Int)) 1
    rw [e1, e2]
    exact Heap.get?_push_size _ rfl
  · have e : b = (s.heap.push { cls := .type "range", data := .fields #[.int lo t, .int hi u, .int 1 v] }).objs.size := by simpa using hb
    subst e
    exact I1.fpOk (Nat.le_refl _) (I1.hok.fresh (Nat.le_refl _))
def iRng1 (ta : TA) : TI := fun σ H R => ta σ H fun vs H1 => ∃ j : Int, vs = [.int j] ∧ -(2 ^ 62) ≤ j ∧ j < 2 ^ 62 ∧ R (Itr 0 j.toNat) H1
theorem pi_range1 {a : Expr} {ta : TA} {p pos : Pos} (hg : Gl X "range") (hm : X.mg "range" = none) (ha : PA X [a] ta) (hs : starEach [a] X.env = [(false, eval a X.env)] := by rfl) : PI X tg (.Call (.Name "range" p) [a] [] pos) (iRng1 ta) := by
  with_unfolding_all
    intro pins s σ H R I h
    refine Call_ (ld_blt I hg hm boot_range (PyProof.Rows.callWith_type1 (thn (ha pos pins s σ H _ I h) fun us s1 ⟨vs, H1, I1, r1, q1⟩ => ?_) hs rfl))
    obtain ⟨j, e, q1, q2, q⟩ := q1
    subst e
    cases r1 with
    | cons r rr =>
      cases rr
      obtain ⟨t, rfl⟩ := r
      exact call_range_1 (range_it I1 (by omega) (by omega) q1 q2 (by simpa using q))
/-! ### for -/
def tFor (wi : TI) (g : TG) (tb : TS) : TS := fun D σ H => wi σ H fun J H1 => ∃ W : Nat → Nat → St → Hp → Prop, (∃ m, W 0 m σ H1) ∧ ∀ i m σ H, W i m σ H →
  (J.stop i H ∧ D.nx σ H) ∨ (J.go i H ∧ ∃ N : St → Hp → Prop, (∀ σ' H', N σ' H' → ∃ m', m' < m ∧ W (i + 1) m' σ' H') ∧ ∀ x H', J.yld i H x H' → g x σ H' fun σ2 H2 => tb { D with nx := N, ct := N, bk := D.nx } σ2 H2)
def pinsAt (fp : List Addr) (h : Heap) : List (Addr × Obj) := fp.filterMap fun b => (h.get? b).map fun o => (b, o)
theorem mem_pinsAt {fp : List Addr} {h : Heap} {b : Addr} {o : Obj} (hb : b ∈ fp) (e : h.get? b = some o) : (b, o) ∈ pinsAt fp h := List.mem_filterMap.mpr ⟨b, hb, by rw [e]; rfl⟩
theorem of_pinsAt {fp : List Addr} {h : Heap} {p : Addr × Obj} (hp : p ∈ pinsAt fp h) : p.1 ∈ fp ∧ h.get? p.1 = some p.2 := by
  obtain ⟨b, hb, e⟩ := List.mem_filterMap.mp hp
  cases q : h.get? b with
  | none => rw [q] at e; cases e
  | some o =>
    rw [q] at e
    have e' : (b, o) = p := Option.some.inj e
    subst e'
    exact ⟨hb, q⟩
theorem Inv.pinned {pins : List (Addr × Obj)} {σ : St} {H : Hp} {s : Shared} {fp : List Addr} (I : Inv X pins σ H s) (hf : ∀ b ∈ fp, FpOk X pins H b) (ho : ∀ b ∈ fp, ∃ o, s.heap.get? b = some o ∧ ∀ v, o.data ≠ .cell v) : Inv X (pins ++ pinsAt fp s.heap) σ H s :=
  I.pins_of fun p hp => (List.mem_append.mp hp).elim (fun z => I.pin p (List.mem_append_right _ z)) fun z => by
    obtain ⟨hb, e⟩ := of_pinsAt z
    obtain ⟨f0, f1, f2, _⟩ := hf p.1 hb
    obtain ⟨o, e', d⟩ := ho p.1 hb
    rw [e] at e'; cases e'
    exact ⟨e, f0, f1, f2, d⟩
theorem Inv.unpinned {pins pl : List (Addr × Obj)} {σ : St} {H : Hp} {s : Shared} (I : Inv X (pins ++ pl) σ H s) : Inv X pins σ H s := I.pins_of fun p hp => I.pin p (List.mem_append_right _ (List.mem_append_left _ hp))
theorem ps_for {iter : Expr} {body : List Stmt} {wi : TI} {g : TG} {tb : TS} {pos : Pos} (hp : PassesOwn (model X.prog X.w) X.A X.env X.xe) (hc : X.calm = true) (hi : PI X tg iter wi) (hg : PG X tg g) (hb : PSs X body tb)
    (hs : ∀ x, foldedSetIterable iter X.env x = pure x := by intro _; rfl) : PS X (.For tg iter body [] pos) (tFor wi g tb) := by
  with_unfolding_all
    intro pins s σ H D I h
    refine wpAny_For (thn (hi pins s σ H _ I h) fun v s1 h1 => thn h1 fun itv s2 h2 => ?_) hs
    obtain ⟨it, fp, tn, J, H2, e, I2, T, st2, f2, W, ⟨m0, w0⟩, turn⟩ := h2
    subst e
    -- what stays true of the iterator's objects through the loop
    have stat : ∀ {H' : Hp}, (∀ b ∈ fp, H' b = none) → ∀ b ∈ fp, FpOk X pins H' b := fun hn b hb => ⟨hn b hb, (f2 b hb).2⟩
    refine codeAny_forLoop_any (fun n s' => ∃ i σ' H', Inv X pins σ' H' s' ∧ tn i s'.heap ∧ (∀ b ∈ fp, H' b = none) ∧ W i n σ' H') ?_ m0 ⟨0, σ, H2, I2, st2, fun b hb => (f2 b hb).1, w0⟩
    rintro n s3 ⟨i, σ3, H3, I3, st3, fr3, w3⟩
    rcases turn i n σ3 H3 w3 with ⟨stop, qn⟩ | ⟨go, N, hN, step⟩
    · refine wpAny_passesOwn hp (thn (T.done X rfl rfl rfl hc i pins s3 σ3 H3 X.xe I3 (stat fr3) st3 stop) fun r s4 ⟨hr, I4⟩ => ?_)
      subst hr
      exact wpAny_execs_nil ⟨σ3, H3, I4, qn⟩
    · refine wpAny_passesOwn hp (thn (T.item X rfl rfl rfl hc i pins s3 σ3 H3 X.xe I3 (stat fr3) st3 go) fun r s4 ⟨u, hr, h4⟩ => ?_)
      subst hr
      refine wpAny_passesOwn hp (thn h4 fun _ s5 ⟨x, H5, I5, r5, y5, st5, fr5⟩ => ?_)
      have I5' := I5.pinned (stat fr5) (T.obj _ _ st5)
      refine wpAny_passesOwn hp (thn (hg _ s5 σ3 H5 x u _ I5' r5 (step x H5 y5)) fun _ s6 ⟨σ6, H6, I6, q6⟩ => ?_)
      refine wpAny_passesOwn hp (thn (hb _ s6 σ6 H6 _ I6 q6) fun f s7 q7 => ?_)
      have again : ∀ {σ7 : St} {H7 : Hp}, Inv X (pins ++ pinsAt fp s5.heap) σ7 H7 s7 → N σ7 H7 → ∃ m, m < n ∧ ∃ i σ' H', Inv X pins σ' H' s7 ∧ tn i s7.heap ∧ (∀ b ∈ fp, H' b = none) ∧ W i m σ' H' := fun {σ7 H7} I7 n7 => by
        obtain ⟨m', hm, w7⟩ := hN σ7 H7 n7
        refine ⟨m', hm, i + 1, σ7, H7, I7.unpinned, T.keep _ _ _ st5 fun b hb o e => (I7.pin (b, o) (List.mem_append_right _ (List.mem_append_right _ (mem_pinsAt hb e)))).1, fun b hb => ?_, w7⟩
        obtain ⟨o, e, d⟩ := T.obj _ _ st5 b hb
        exact (I7.pin (b, o) (List.mem_append_right _ (List.mem_append_right _ (mem_pinsAt hb e)))).2.1
      cases f with
      | next => obtain ⟨σ7, H7, I7, n7⟩ := q7; exact again I7 n7
      | cont => obtain ⟨σ7, H7, I7, n7⟩ := q7; exact again I7 n7
      | brk => obtain ⟨σ7, H7, I7, q7⟩ := q7; exact ⟨σ7, H7, I7.unpinned, q7⟩
      | ret v => obtain ⟨x7, σ7, H7, I7, r7, q7⟩ := q7; exact ⟨x7, σ7, H7, I7.unpinned, r7, q7⟩
end

/-! ### the forms one uses -/
theorem for_list {K : PySem.W.Frag} {a : Addr} {xs : List V} {g : TG} {tb : TS} {D : Ends} {σ : St} {H : Hp} (Pv : Nat → St → Hp → Prop) (h0 : Pv 0 σ H) (hl : ∀ i σ H, i ≤ xs.length → Pv i σ H → SqL K H a xs)
    (hs : ∀ i x σ H, xs[i]? = some x → Pv i σ H → g x σ H fun σ2 H2 => tb { D with nx := Pv (i + 1), ct := Pv (i + 1), bk := D.nx } σ2 H2) (hd : ∀ σ H, Pv xs.length σ H → D.nx σ H) :
    ∃ W : Nat → Nat → St → Hp → Prop, (∃ m, W 0 m σ H) ∧ ∀ i m σ H, W i m σ H →
      ((Itl K a).stop i H ∧ D.nx σ H) ∨ ((Itl K a).go i H ∧ ∃ N : St → Hp → Prop, (∀ σ' H', N σ' H' → ∃ m', m' < m ∧ W (i + 1) m' σ' H') ∧ ∀ x H', (Itl K a).yld i H x H' → g x σ H' fun σ2 H2 => tb { D with nx := N, ct := N, bk := D.nx } σ2 H2) := by
  refine ⟨fun i m σ H => m = xs.length - i ∧ i ≤ xs.length ∧ Pv i σ H, ⟨xs.length, by simp, Nat.zero_le _, h0⟩, ?_⟩
  rintro i m σ H ⟨rfl, hi, p⟩
  have q := hl i σ H hi p
  by_cases hlt : i < xs.length
  · refine .inr ⟨⟨xs, xs[i], q, by simp [hlt]⟩, Pv (i + 1), fun σ' H' p' => ⟨xs.length - (i + 1), by omega, rfl, hlt, p'⟩, fun x H' y => ?_⟩
    obtain ⟨e, y⟩ := y
    subst e
    exact hs i x σ _ (y xs q) p
  · have e : i = xs.length := by omega
    subst e
    exact .inl ⟨⟨xs, q, Nat.le_refl _⟩, hd σ H p⟩
theorem for_tup {K : PySem.W.Frag} {a : Addr} {xs : List V} {g : TG} {tb : TS} {D : Ends} {σ : St} {H : Hp} (Pv : Nat → St → Hp → Prop) (h0 : Pv 0 σ H) (hl : ∀ i σ H, i ≤ xs.length → Pv i σ H → SqT K H a xs)
    (hs : ∀ i x σ H, xs[i]? = some x → Pv i σ H → g x σ H fun σ2 H2 => tb { D with nx := Pv (i + 1), ct := Pv (i + 1), bk := D.nx } σ2 H2) (hd : ∀ σ H, Pv xs.length σ H → D.nx σ H) :
    ∃ W : Nat → Nat → St → Hp → Prop, (∃ m, W 0 m σ H) ∧ ∀ i m σ H, W i m σ H →
      ((Itt K a).stop i H ∧ D.nx σ H) ∨ ((Itt K a).go i H ∧ ∃ N : St → Hp → Prop, (∀ σ' H', N σ' H' → ∃ m', m' < m ∧ W (i + 1) m' σ' H') ∧ ∀ x H', (Itt K a).yld i H x H' → g x σ H' fun σ2 H2 => tb { D with nx := N, ct := N, bk := D.nx } σ2 H2) := by
  refine ⟨fun i m σ H => m = xs.length - i ∧ i ≤ xs.length ∧ Pv i σ H, ⟨xs.length, by simp, Nat.zero_le _, h0⟩, ?_⟩
  rintro i m σ H ⟨rfl, hi, p⟩
  have q := hl i σ H hi p
  by_cases hlt : i < xs.length
  · refine .inr ⟨⟨xs, xs[i], q, by simp [hlt]⟩, Pv (i + 1), fun σ' H' p' => ⟨xs.length - (i + 1), by omega, rfl, hlt, p'⟩, fun x H' y => ?_⟩
    obtain ⟨e, y⟩ := y
    subst e
    exact hs i x σ _ (y xs q) p
  · have e : i = xs.length := by omega
    subst e
    exact .inl ⟨⟨xs, q, Nat.le_refl _⟩, hd σ H p⟩
theorem for_range {lo : Int} {n : Nat} {g : TG} {tb : TS} {D : Ends} {σ : St} {H : Hp} (Pv : Nat → St → Hp → Prop) (h0 : Pv 0 σ H)
    (hs : ∀ i σ H, i < n → Pv i σ H → g (.int (lo + i)) σ H fun σ2 H2 => tb { D with nx := Pv (i + 1), ct := Pv (i + 1), bk := D.nx } σ2 H2) (hd : ∀ σ H, Pv n σ H → D.nx σ H) :
    ∃ W : Nat → Nat → St → Hp → Prop, (∃ m, W 0 m σ H) ∧ ∀ i m σ H, W i m σ H →
      ((Itr lo n).stop i H ∧ D.nx σ H) ∨ ((Itr lo n).go i H ∧ ∃ N : St → Hp → Prop, (∀ σ' H', N σ' H' → ∃ m', m' < m ∧ W (i + 1) m' σ' H') ∧ ∀ x H', (Itr lo n).yld i H x H' → g x σ H' fun σ2 H2 => tb { D with nx := N, ct := N, bk := D.nx } σ2 H2) := by
  refine ⟨fun i m σ H => m = n - i ∧ i ≤ n ∧ Pv i σ H, ⟨n, by simp, Nat.zero_le _, h0⟩, ?_⟩
  rintro i m σ H ⟨rfl, hi, p⟩
  by_cases hlt : i < n
  · refine .inr ⟨hlt, Pv (i + 1), fun σ' H' p' => ⟨n - (i + 1), by omega, rfl, hlt, p'⟩, fun x H' y => ?_⟩
    obtain ⟨e, y⟩ := y
    subst e y
    exact hs i σ _ hlt p
  · have e : i = n := by omega
    subst e
    exact .inl ⟨Nat.le_refl _, hd σ H p⟩
theorem while_by {c : TT} {tb : TS} {D : Ends} {σ : St} {H : Hp} (Pv : St → Hp → Prop) (μ : St → Hp → Nat) (h0 : Pv σ H)
    (hs : ∀ σ H, Pv σ H → c σ H fun b H1 => if b = true then tb { D with nx := fun σ' H' => Pv σ' H' ∧ μ σ' H' < μ σ H, ct := fun σ' H' => Pv σ' H' ∧ μ σ' H' < μ σ H, bk := D.nx } σ H1 else D.nx σ H1)
    (mono : ∀ σ H Q Q', (∀ b H1, Q b H1 → Q' b H1) → c σ H Q → c σ H Q') : tWhile c tb D σ H := by
  refine ⟨fun m σ H => m = μ σ H ∧ Pv σ H, ⟨_, rfl, h0⟩, ?_⟩
  rintro m σ H ⟨rfl, p⟩
  refine mono σ H _ _ (fun b H1 q => ?_) (hs σ H p)
  cases b with
  | true => exact ⟨_, fun σ' H' ⟨p', l⟩ => ⟨_, l, rfl, p'⟩, q⟩
  | false => exact q
end L2

namespace L2
open PySem PySem.Spec PyProof.Rows

abbrev R2 := V → V → Hp → VK → Prop
def OpR (X : Cx) (f : Value → Value → Sem Value) (r : R2) : Prop :=
  ∀ (pins : List (Addr × Obj)) (s : Shared) (σ : St) (H : Hp) (x y : V) (v u : Value) (Q : VK), Inv X pins σ H s → RelV x v → RelV y u → r x y H Q →
    wpAny (model X.prog X.w) X.A (f v u) (EP X pins σ Q) X.xe s
def UnR (X : Cx) (f : Value → Sem Value) (r : V → Hp → VK → Prop) : Prop :=
  ∀ (pins : List (Addr × Obj)) (s : Shared) (σ : St) (H : Hp) (x : V) (v : Value) (Q : VK), Inv X pins σ H s → RelV x v → r x H Q →
    wpAny (model X.prog X.w) X.A (f v) (EP X pins σ Q) X.xe s
def CallR (X : Cx) (f : Value) (r : List V → Hp → VK → Prop) : Prop :=
  ∀ (pins : List (Addr × Obj)) (s : Shared) (σ : St) (H : Hp) (xs : List V) (us : List Value) (Q : VK), Inv X pins σ H s → Vals xs us → r xs H Q →
    wpAny (model X.prog X.w) X.A (call f us) (EP X pins σ Q) X.xe s
def tOp (r : R2) (ta tb : TE) : TE := fun σ H Q => ta σ H fun x H1 => tb σ H1 fun y H2 => r x y H2 Q
def tUn (r : V → Hp → VK → Prop) (ta : TE) : TE := fun σ H Q => ta σ H fun x H1 => r x H1 Q
def rI (C : Int → Int → Prop) (g : Int → Int → V) : R2 := fun x y H Q => ∃ i j, x = .int i ∧ y = .int j ∧ C i j ∧ Q (g i j) H
def rI0 (g : Int → Int → V) : R2 := fun x y H Q => ∃ i j, x = .int i ∧ y = .int j ∧ Q (g i j) H
def rU (g : Int → V) : V → Hp → VK → Prop := fun x H Q => ∃ i, x = .int i ∧ Q (g i) H

section
variable {X : Cx} {a b c : Expr} {ta tb tc : TE} {pos : Pos}

theorem binT (ha : PE X a ta) (hb : PE X b tb) {pins : List (Addr × Obj)} {s : Shared} {σ : St} {H : Hp} {R : V → V → Hp → Prop} (I : Inv X pins σ H s)
    (h : ta σ H fun x H1 => tb σ H1 fun y H2 => R x y H2) {Q : Value → Shared → Prop} {f : Value → Value → Sem Value}
    (hf : ∀ v u s2 x y H2, Inv X pins σ H2 s2 → RelV x v → RelV y u → R x y H2 → wpAny (model X.prog X.w) X.A (f v u) Q X.xe s2) :
    wpAny (model X.prog X.w) X.A (eval a X.env) (fun v s₁ => wpAny (model X.prog X.w) X.A (eval b X.env) (fun u s₂ => wpAny (model X.prog X.w) X.A (f v u) Q X.xe s₂) X.xe s₁) X.xe s := by
  with_unfolding_all
    refine thn (ha pins s σ H _ I h) fun v s1 ⟨x, H1, I1, r1, q1⟩ => ?_
    refine thn (hb pins s1 σ H1 _ I1 q1) fun u s2 ⟨y, H2, I2, r2, q2⟩ => ?_
    exact hf v u s2 x y H2 I2 r1 r2 q2

theorem pe_op {op : Operator} {r : R2} (ho : OpR X (binaryOp op) r) (ha : PE X a ta) (hb : PE X b tb) : PE X (.BinOp a op b pos) (tOp r ta tb) := by
  with_unfolding_all
    intro pins s σ H Q I h
    exact wpAny_BinOp (binT ha hb I h fun v u s2 x y H2 I2 rx ry q => ho pins s2 σ H2 x y v u Q I2 rx ry q)
theorem pe_un {op : UnaryOp} {r : V → Hp → VK → Prop} (ho : UnR X (unaryOp op) r) (ha : PE X a ta) : PE X (.UnaryOp op a pos) (tUn r ta) := by
  with_unfolding_all
    intro pins s σ H Q I h
    exact UnaryOp_ (thn (ha pins s σ H _ I h) fun v s1 ⟨x, H1, I1, r1, q1⟩ => ho pins s1 σ H1 x v Q I1 r1 q1)
/-! ### ints -/
theorem opI {f : Value → Value → Sem Value} {C : Int → Int → Prop} {g : Int → Int → Int}
    (rule : ∀ (i j : Int) (t u : Tok) (s : Shared) (Q : Value → Shared → Prop) (E : Value → Shared → Prop), C i j → Q (.int (g i j) s.toks) { s with toks := s.toks + 1 } → wpAny (model X.prog X.w) X.A (f (.int i t) (.int j u)) Q E s) :
    OpR X f (rI C fun i j => .int (g i j)) := by
  intro pins s σ H x y v u Q I rx ry h
  obtain ⟨i, j, rfl, rfl, hc, q⟩ := h
  obtain ⟨t, rfl⟩ := rx
  obtain ⟨t', rfl⟩ := ry
  exact rule i j t t' s _ _ hc ⟨.int (g i j), H, I.tok _, ⟨_, rfl⟩, q⟩
theorem opI0 {f : Value → Value → Sem Value} {g : Int → Int → Int}
    (rule : ∀ (i j : Int) (t u : Tok) (s : Shared) (Q : Value → Shared → Prop) (E : Value → Shared → Prop), Q (.int (g i j) s.toks) { s with toks := s.toks + 1 } → wpAny (model X.prog X.w) X.A (f (.int i t) (.int j u)) Q E s) :
    OpR X f (rI0 fun i j => .int (g i j)) := by
  intro pins s σ H x y v u Q I rx ry h
  obtain ⟨i, j, rfl, rfl, q⟩ := h
  obtain ⟨t, rfl⟩ := rx
  obtain ⟨t', rfl⟩ := ry
  exact rule i j t t' s _ _ ⟨.int (g i j), H, I.tok _, ⟨_, rfl⟩, q⟩
theorem opB0 {f : Value → Value → Sem Value} {g : Int → Int → Bool}
    (rule : ∀ (i j : Int) (t u : Tok) (s : Shared) (Q : Value → Shared → Prop) (E : Value → Shared → Prop), Q (.bool (g i j)) s → wpAny (model X.prog X.w) X.A (f (.int i t) (.int j u)) Q E s) :
    OpR X f (rI0 fun i j => .bl (g i j)) := by
  intro pins s σ H x y v u Q I rx ry h
  obtain ⟨i, j, rfl, rfl, q⟩ := h
  obtain ⟨t, rfl⟩ := rx
  obtain ⟨t', rfl⟩ := ry
  exact rule i j t t' s _ _ ⟨.bl (g i j), H, I, rfl, q⟩

def CDiv (i j : Int) : Prop := 0 < j ∧ j < 1073741824
def CPow (i j : Int) : Prop := 0 ≤ j ∧ j ≤ 1000000 ∧ i.natAbs < 2 ^ 64
def CMul (i j : Int) : Prop := (-(2 ^ 64) < i ∧ i < 2 ^ 64) ∨ (-(2 ^ 64) < j ∧ j < 2 ^ 64)
theorem CMul.ok {i j : Int} (h : CMul i j) : IntMulOk i j := by
  rcases h with ⟨h1, h2⟩ | ⟨h1, h2⟩
  · exact .of_left (intBits_le_64 h1 h2)
  · exact .of_right (intBits_le_64 h1 h2)
theorem two_pow_nn (k : Nat) : (0 : Int) ≤ 2 ^ k := by
  rw [two_pow_cast]
  exact Int.natCast_nonneg _

theorem op_add : OpR X (binaryOp .Add) (rI0 fun i j => .int (i + j)) := opI0 fun _ _ _ _ _ _ _ q => add_int q
theorem op_sub : OpR X (binaryOp .Sub) (rI0 fun i j => .int (i - j)) := opI0 fun _ _ _ _ _ _ _ q => sub_int q
theorem op_mul : OpR X (binaryOp .Mult) (rI CMul fun i j => .int (i * j)) := opI fun _ _ _ _ _ _ _ hc q => mul_int q hc.ok
theorem op_fdiv : OpR X (binaryOp .FloorDiv) (rI CDiv fun i j => .int (i / j)) := opI fun i j _ _ _ _ _ hc q => by
  have h1 : (0 : Int) < j := hc.1
  have h2 : j < 1073741824 := hc.2
  exact floordiv_int (by omega) (by rw [Int.fdiv_eq_ediv_of_nonneg i (by omega)]; exact q) (.inl (PyProof.noPylong_small (by omega)))
theorem op_mod : OpR X (binaryOp .Mod) (rI (fun _ j => 0 < j) fun i j => .int (i % j)) := opI fun i j _ _ _ _ _ hc q => by
  have h1 : (0 : Int) < j := hc
  exact mod_int' (by omega) (by rw [Int.fmod_eq_emod_of_nonneg i (by omega)]; exact q)
theorem op_pow : OpR X (binaryOp .Pow) (rI CPow fun i j => .int (i ^ j.toNat)) := opI fun _ _ _ _ _ _ _ hc q => pow_int_small hc.1 hc.2.1 hc.2.2 q
theorem op_shr : OpR X (binaryOp .RShift) (rI (fun _ j => 0 ≤ j) fun i j => .int (i / 2 ^ j.toNat)) := opI fun i j _ _ _ _ _ hc q =>
  rshift_int hc (by rw [Int.fdiv_eq_ediv_of_nonneg i (two_pow_nn _)]; exact q)
theorem unI {f : Value → Sem Value} {g : Int → Int}
    (rule : ∀ (i : Int) (t : Tok) (s : Shared) (Q : Value → Shared → Prop) (E : Value → Shared → Prop), Q (.int (g i) s.toks) { s with toks := s.toks + 1 } → wpAny (model X.prog X.w) X.A (f (.int i t)) Q E s) :
    UnR X f (rU fun i => .int (g i)) := by
  intro pins s σ H x v Q I rx h
  obtain ⟨i, rfl, q⟩ := h
  obtain ⟨t, rfl⟩ := rx
  exact rule i t s _ _ ⟨.int (g i), H, I.tok _, ⟨_, rfl⟩, q⟩
theorem un_neg : UnR X (unaryOp .USub) (rU fun i => .int (-i)) := unI fun _ _ _ _ _ q => neg_int q
/-! ### bools among ints: n += (a < b) -/
end

/-! ### comparisons -/
def scal : V → V → Bool
  | .non, .non => true | .non, .int _ => true | .int _, .non => true | .non, .bl _ => true | .bl _, .non => true | .non, .str _ => true | .str _, .non => true
  | .int _, .int _ => true | .bl _, .bl _ => true | .str _, .str _ => true | .byt _, .byt _ => true
  | .int _, .str _ => true | .str _, .int _ => true | .bl _, .str _ => true | .str _, .bl _ => true
  | _, _ => false
def rEq : R2 := fun x y H Q => scal x y = true ∧ Q (.bl (decide (x = y))) H
def rNe : R2 := fun x y H Q => scal x y = true ∧ Q (.bl (!decide (x = y))) H

theorem dec_int {i j : Int} : decide (V.int i = V.int j) = (i == j) := by
  rw [Bool.eq_iff_iff]
  simp
theorem dec_bl {i j : Bool} : decide (V.bl i = V.bl j) = (i == j) := by
  rw [Bool.eq_iff_iff]
  simp
theorem dec_str {i j : Str} : decide (V.str i = V.str j) = (i == j) := by
  rw [Bool.eq_iff_iff]
  simp
theorem dec_byt {i j : Array UInt8} : decide (V.byt i = V.byt j) = (i.toList == j.toList) := by
  rw [Bool.eq_iff_iff]
  cases i
  cases j
  simp

section
variable {X : Cx} {a b c : Expr} {ta tb tc : TE} {pos : Pos}
theorem fin_bl {pins : List (Addr × Obj)} {σ : St} {H : Hp} {s : Shared} {Q : VK} {k k' : Bool} (I : Inv X pins σ H s) (q : Q (.bl k) H) (e : k = k') : EP X pins σ Q (.bool k') s := by
  subst e
  exact ⟨.bl k, H, I, rfl, q⟩
theorem op_eq : OpR X (compareOp .Eq) rEq := by
  intro pins s σ H x y v u Q I rx ry h
  obtain ⟨hs, q⟩ := h
  cases x with
  | non =>
    cases rx
    cases y with
    | non => cases ry; exact PySem.EqNone.eq_none_none (fin_bl I q (by simp))
    | bl j => cases ry; exact PySem.EqNone.eq_none_bool (fin_bl I q (by simp))
    | int j => obtain ⟨t', rfl⟩ := ry; exact PySem.EqNone.eq_none_int (fin_bl I q (by simp))
    | str j => obtain ⟨t', rfl⟩ := ry; exact PySem.EqNone.eq_none_str (fin_bl I q (by simp))
    | _ => exact absurd (show false = true from hs) Bool.false_ne_true
  | bl i =>
    cases rx
    cases y with
    | non => cases ry; exact PySem.EqNone.eq_bool_none (fin_bl I q (by simp))
    | bl j => cases ry; exact eq_bool (fin_bl I q dec_bl)
    | str j => obtain ⟨t', rfl⟩ := ry; exact PySem.EqMixed.eq_bool_str (fin_bl I q (by simp))
    | _ => exact absurd (show false = true from hs) Bool.false_ne_true
  | int i =>
    obtain ⟨t, rfl⟩ := rx
    cases y with
    | non => cases ry; exact PySem.EqNone.eq_int_none (fin_bl I q (by simp))
    | int j => obtain ⟨t', rfl⟩ := ry; exact eq_int (fin_bl I q dec_int)
    | str j => obtain ⟨t', rfl⟩ := ry; exact PySem.EqMixed.eq_int_str (fin_bl I q (by simp))
    | _ => exact absurd (show false = true from hs) Bool.false_ne_true
  | str i =>
    obtain ⟨t, rfl⟩ := rx
    cases y with
    | non => cases ry; exact PySem.EqNone.eq_str_none (fin_bl I q (by simp))
    | bl j => cases ry; exact PySem.EqMixed.eq_str_bool (fin_bl I q (by simp))
    | int j => obtain ⟨t', rfl⟩ := ry; exact PySem.EqMixed.eq_str_int (fin_bl I q (by simp))
    | str j => obtain ⟨t', rfl⟩ := ry; exact eq_str (fin_bl I q dec_str)
    | _ => exact absurd (show false = true from hs) Bool.false_ne_true
  | byt i =>
    obtain ⟨t, rfl⟩ := rx
    cases y with
    | byt j => obtain ⟨t', rfl⟩ := ry; exact PySem.W.eq_bytes (fin_bl I q dec_byt)
    | _ => exact absurd (show false = true from hs) Bool.false_ne_true
  | _ => cases y <;> exact absurd (show false = true from hs) Bool.false_ne_true
theorem op_ne : OpR X (compareOp .NotEq) rNe := by
  intro pins s σ H x y v u Q I rx ry h
  obtain ⟨hs, q⟩ := h
  cases x with
  | non =>
    cases rx
    cases y with
    | non => cases ry; exact PySem.EqNone.ne_none_none (fin_bl I q (by simp))
    | bl j => cases ry; exact PySem.EqNone.ne_none_bool (fin_bl I q (by simp))
    | int j => obtain ⟨t', rfl⟩ := ry; exact PySem.EqNone.ne_none_int (fin_bl I q (by simp))
    | str j => obtain ⟨t', rfl⟩ := ry; exact PySem.EqNone.ne_none_str (fin_bl I q (by simp))
    | _ => exact absurd (show false = true from hs) Bool.false_ne_true
  | bl i =>
    cases rx
    cases y with
    | non => cases ry; exact PySem.EqNone.ne_bool_none (fin_bl I q (by simp))
    | bl j => cases ry; exact ne_bool (fin_bl I q (congrArg not dec_bl))
    | str j => obtain ⟨t', rfl⟩ := ry; exact PySem.EqMixed.ne_bool_str (fin_bl I q (by simp))
    | _ => exact absurd (show false = true from hs) Bool.false_ne_true
  | int i =>
    obtain ⟨t, rfl⟩ := rx
    cases y with
    | non => cases ry; exact PySem.EqNone.ne_int_none (fin_bl I q (by simp))
    | int j => obtain ⟨t', rfl⟩ := ry; exact ne_int (fin_bl I q (congrArg not dec_int))
    | str j => obtain ⟨t', rfl⟩ := ry; exact PySem.EqMixed.ne_int_str (fin_bl I q (by simp))
    | _ => exact absurd (show false = true from hs) Bool.false_ne_true
  | str i =>
    obtain ⟨t, rfl⟩ := rx
    cases y with
    | non => cases ry; exact PySem.EqNone.ne_str_none (fin_bl I q (by simp))
    | bl j => cases ry; exact PySem.EqMixed.ne_str_bool (fin_bl I q (by simp))
    | int j => obtain ⟨t', rfl⟩ := ry; exact PySem.EqMixed.ne_str_int (fin_bl I q (by simp))
    | str j => obtain ⟨t', rfl⟩ := ry; exact ne_str (fin_bl I q (congrArg not dec_str))
    | _ => exact absurd (show false = true from hs) Bool.false_ne_true
  | byt i =>
    obtain ⟨t, rfl⟩ := rx
    cases y with
    | byt j => obtain ⟨t', rfl⟩ := ry; exact PySem.W.ne_bytes (fin_bl I q (congrArg not dec_byt))
    | _ => exact absurd (show false = true from hs) Bool.false_ne_true
  | _ => cases y <;> exact absurd (show false = true from hs) Bool.false_ne_true

theorem op_lt : OpR X (compareOp .Lt) (rI0 fun i j => .bl (decide (i < j))) := opB0 fun _ _ _ _ _ _ _ q => lt_int q
theorem op_le : OpR X (compareOp .LtE) (rI0 fun i j => .bl (decide (i ≤ j))) := opB0 fun _ _ _ _ _ _ _ q => le_int q
theorem op_gt : OpR X (compareOp .Gt) (rI0 fun i j => .bl (decide (j < i))) := opB0 fun _ _ _ _ _ _ _ q => gt_int q
theorem op_ge : OpR X (compareOp .GtE) (rI0 fun i j => .bl (decide (j ≤ i))) := opB0 fun _ _ _ _ _ _ _ q => ge_int q
theorem op_isN : OpR X (compareOp .Is) (fun x y H Q => y = .non ∧ Q (.bl (decide (x = .non))) H) := by
  intro pins s σ H x y v u Q I rx ry h
  obtain ⟨rfl, q⟩ := h
  cases ry
  refine is_none_gen (fin_bl I q ?_)
  cases x <;> first
    | (cases rx; rfl)
    | (obtain ⟨t, rfl⟩ := rx; rfl)
theorem nomark (b : Expr) {op : CmpOp} (h : op ≠ .In := by decide) (h2 : op ≠ .NotIn := by decide) : behindInMarks op b = false := by
  have e1 : (op == CmpOp.In) = false := by cases op <;> first | rfl | exact absurd rfl h
  have e2 : (op == CmpOp.NotIn) = false := by cases op <;> first | rfl | exact absurd rfl h2
  cases b <;> simp [behindInMarks, e1, e2]
theorem pe_cmpR {op : CmpOp} {r : R2} (ho : OpR X (compareOp op) r) (ha : PE X a ta) (hb : PE X b tb) (hm : behindInMarks op b = false) : PE X (.Compare a [op] [b] pos) (tOp r ta tb) := by
  with_unfolding_all
    intro pins s σ H Q I h
    exact wpAny_Compare1 (binT ha hb I h fun v u s2 x y H2 I2 rx ry q => ho pins s2 σ H2 x y v u Q I2 rx ry q) hm
def tTest (t : TE) : TT := fun σ H Q => t σ H fun x H' => ∃ k, x = .bl k ∧ Q k H'
theorem pt_cmpR {op : CmpOp} {r : R2} (ho : OpR X (compareOp op) r) (ha : PE X a ta) (hb : PE X b tb) (hm : behindInMarks op b = false) : PT X (.Compare a [op] [b] pos) (tTest (tOp r ta tb)) := by
  with_unfolding_all
    intro pins s σ H Q I h
    refine wpAny_isTrue_Compare1 (thn (ha pins s σ H _ I h) fun v s1 ⟨x, H1, I1, r1, q1⟩ => thn (hb pins s1 σ H1 _ I1 q1) fun u s2 ⟨y, H2, I2, r2, q2⟩ =>
      thn (ho pins s2 σ H2 x y v u _ I2 r1 r2 q2) fun c s3 ⟨z, H3, I3, r3, k, e, q3⟩ => ?_) hm
    subst e
    cases r3
    exact wpAny_truthy_bool ⟨H3, I3, q3⟩
def tChain (r r' : R2) (ta tb tc : TE) : TE := fun σ H Q => ta σ H fun x H1 => tb σ H1 fun y H2 => r x y H2 fun z H3 => ∃ k, z = .bl k ∧
  (if k = true then tc σ H3 fun w' H4 => r' y w' H4 Q else Q (.bl false) H3)
theorem pe_chain {op op' : CmpOp} {r r' : R2} (ho : OpR X (compareOp op) r) (ho' : OpR X (compareOp op') r') (ha : PE X a ta) (hb : PE X b tb) (hc : PE X c tc)
    (hm : lastMarks [op, op'] [b, c] = false := by with_unfolding_all rfl) : PE X (.Compare a [op, op'] [b, c] pos) (tChain r r' ta tb tc) := by
  with_unfolding_all
    intro pins s σ H Q I h
    refine Compare_chain (thn (ha pins s σ H _ I h) fun v s1 ⟨x, H1, I1, r1, q1⟩ => chain_link (thn (hb pins s1 σ H1 _ I1 q1) fun u s2 ⟨y, H2, I2, r2, q2⟩ =>
      thn (ho pins s2 σ H2 x y v u _ I2 r1 r2 q2) fun d s3 ⟨z, H3, I3, r3, k, e, q3⟩ => ?_)) hm
    subst e
    cases r3
    refine wpAny_truthy_bool ?_
    cases k with
    | false => exact ite_ff ⟨.bl false, H3, I3, rfl, q3⟩
    | true => exact ite_tt (chain_last (thn (hc pins s3 σ H3 _ I3 q3) fun w' s4 ⟨z', H4, I4, r4, q4⟩ => ho' pins s4 σ H4 y z' u w' Q I4 r2 r4 q4))
/-! ### truth -/
theorem line63 : (sizeLine : Nat) < 2 ^ 63 := by rw [sizeLine_eq]; decide
/-! ### strs and bytes -/
/-! ### scalar builtins, by CallR -/
theorem vals1 {x : V} {us : List Value} (r : Vals [x] us) : ∃ u, us = [u] ∧ RelV x u := by
  cases r with
  | cons r1 r2 => cases r2; exact ⟨_, rfl, r1⟩
theorem vals2 {x y : V} {us : List Value} (r : Vals [x, y] us) : ∃ u w', us = [u, w'] ∧ RelV x u ∧ RelV y w' := by
  cases r with
  | cons r1 r2 =>
    cases r2 with
    | cons r3 r4 => cases r4; exact ⟨_, _, rfl, r1, r3⟩
theorem call_max2 (hc : X.calm = true) : CallR X (.builtin "max") (fun xs H Q => ∃ i j, xs = [.int i, .int j] ∧ Q (.int (if j > i then j else i)) H) := by
  intro pins s σ H xs us Q I r h
  obtain ⟨i, j, rfl, q⟩ := h
  obtain ⟨u, w', rfl, ⟨t, rfl⟩, ⟨t', rfl⟩⟩ := vals2 r
  refine max_two_ints (I.ok.hd hc) fun h' tk k => ⟨_, H, I.kept k, ?_, q⟩
  by_cases hj : j > i
  · rw [if_pos hj, if_pos hj]; exact ⟨_, rfl⟩
  · rw [if_neg hj, if_neg hj]; exact ⟨_, rfl⟩
theorem call_int1 : CallR X (.type "int") (fun xs H Q => (∃ i, xs = [.int i] ∧ Q (.int i) H) ∨ ∃ k, xs = [.bl k] ∧ Q (.int (if k then 1 else 0)) H) := by
  intro pins s σ H xs us Q I r h
  rcases h with ⟨i, rfl, q⟩ | ⟨k, rfl, q⟩
  · obtain ⟨u, rfl, t, rfl⟩ := vals1 r
    exact call_int_int ⟨.int i, H, I, ⟨_, rfl⟩, q⟩
  · obtain ⟨u, rfl, r1⟩ := vals1 r
    cases r1
    exact call_int_bool ⟨.int (if k then 1 else 0), H, I.tok _, ⟨_, rfl⟩, q⟩
end
end L2

namespace L2
open PySem PySem.Spec PyProof.Rows

/-! ### an instance, its attributes a map -/
structure ObjM (h : Heap) (x dx C : Addr) (mA : Str → Option Value) : Prop where
  obj : h.get? x = some (PySem.W.instObj C dx)
  ns : h.Ns1 dx mA
  ne : dx ≠ x

theorem lookIn_ns {h : Heap} {dx : Addr} {mA : Str → Option Value} (n : h.Ns1 dx mA) : ∃ od, h.get? dx = some od ∧ ∀ name, PySem.W.lookIn name od = some (mA name) := by
  obtain ⟨o, es, ep, ho, hd, hk, _, hm⟩ := n
  refine ⟨o, ho, fun name => ?_⟩
  have e := hm name
  unfold nsFind findBy at e
  rw [← Array.find?_toList] at e
  unfold PySem.W.lookIn
  rw [hd]
  dsimp only
  split
  · rename_i y q
    rw [q] at e
    exact congrArg some e
  · rename_i q
    rw [q] at e
    have a : es.toList.any (·.refKey) = false := by
      rw [List.any_eq_false]
      intro y hy
      obtain ⟨z, t, hkey⟩ := hk y (Array.mem_toList_iff.mp hy)
      simp [DictEntry.refKey, hkey]
    have a' : ¬ es.toList.any (·.refKey) = true := by rw [a]; exact Bool.false_ne_true
    rw [if_neg a']
    exact congrArg some e

theorem ObjM.look {h : Heap} {x dx C : Addr} {mA : Str → Option Value} (I : ObjM h x dx C mA) : ∃ od, PySem.W.InstAt h x (PySem.W.instObj C dx) C (some od) ∧ ∀ name, PySem.W.lookIn name od = some (mA name) :=
  let ⟨od, ho, hl⟩ := lookIn_ns I.ns
  ⟨od, ⟨I.obj, rfl, rfl, ho⟩, hl⟩

section
variable {prog : Program} {w : World} {A : Around} {E : Value → Shared → Prop} {s : Shared} {K : PySem.W.Frag} {x dx C f : Addr} {mA : Str → Option Value} {name : Str} {v : Value}

end

/-! ### the attributes as a list of pairs -/
theorem RelO.some_of {v : V} {o : Option Value} (r : RelO (some v) o) : ∃ u, o = some u ∧ RelV v u := by
  cases o with
  | none => exact (show False from r).elim
  | some u => exact ⟨u, rfl, r⟩
theorem handed_of {v : V} {u : Value} (r : RelV v u) : PySem.W.handedIn u = true := by
  cases v with
  | non => cases (show u = Value.none from r); rfl
  | bl b => cases (show u = Value.bool b from r); rfl
  | int i => obtain ⟨t, e⟩ := (show ∃ t, u = Value.int i t from r); cases e; rfl
  | str x => obtain ⟨t, e⟩ := (show ∃ t, u = Value.str x t from r); cases e; rfl
  | byt b => obtain ⟨t, e⟩ := (show ∃ t, u = Value.bytes b t from r); cases e; rfl
  | flt b => obtain ⟨t, e⟩ := (show ∃ t, u = Value.float b t from r); cases e; rfl
  | ref a => cases (show u = Value.ref a from r); rfl
  | ty n => cases (show u = Value.type n from r); rfl

section
variable {P : Program} {w : World} {H H' : Hp} {h h' : Heap} {a C dx : Addr} {fs fs' : List (Str × V)}
theorem ins_get (hok : HOk P w H h) (e : H a = some (.ins C dx fs)) : ∃ mA, ObjM h a dx C mA ∧ (∀ f, RelO (fs.lookup f) (mA f)) ∧ PySem.Within mA (fs.map (·.1)) ∧ fs.length ≤ 1000 ∧ H dx = some (.own a) := by
  obtain ⟨d, z, ne, ob, mA, n, r, q⟩ := (show ObjOk P w H h a (.ins C dx fs) from hok a _ e)
  exact ⟨mA, ⟨ob, n, ne⟩, r, q, z, d⟩
end

/-! ### what of the text a class must have -/
structure Cls (K : PySem.W.Frag) (C : Addr) : Prop where
  pg : PySem.W.plainGet K C Str.empty = true
  hd : PySem.W.hasDictIn K C = true
  po : PySem.W.plainOver K C = true
  sa : PySem.W.findIn K (.ref C) "__setattr__" = some (some (.builtin "object.__setattr__"))
theorem Cls.get {K : PySem.W.Frag} {C : Addr} (c : Cls K C) (f : Str) : PySem.W.plainGet K C f = true := c.pg
def NoAttr (K : PySem.W.Frag) (C : Addr) (f : Str) : Prop := PySem.W.findIn K (.ref C) f = some none
structure Con (K : PySem.W.Frag) (C : Addr) (f : Str) (v : V) (u : Value) : Prop where
  at_ : PySem.W.findIn K (.ref C) f = some (some u)
  rel : RelV v u
  get : PySem.W.specialIn K u "__get__" = some none
  cp : PySem.W.copiedNames.contains f = false
structure Meth (K : PySem.W.Frag) (C : Addr) (m : Str) (f : Addr) : Prop where
  at_ : PySem.W.findIn K (.ref C) m = some (some (.ref f))
  fn : PySem.W.isFn K (.ref f) = true
  kp : PySem.W.keepIn K (.ref f) = true

section
variable {X : Cx} {pins : List (Addr × Obj)} {σ : St} {H : Hp} {s : Shared} {a C dx : Addr} {fs : List (Str × V)} {f : Str} {v : V} {A : Around} {E : Value → Shared → Prop}

theorem attr_of {prog : Program} {w : World} {env : Env} {e : Expr} {f : Str} {pos : Pos} {s : Shared} {Q : Value → Shared → Prop} (hb : attributeBase e f env (eval e env) = eval e env)
    (h : wpAny (model prog w) A (eval e env) (fun o s₁ => wpAny (model prog w) A (getAttr o f true) Q E s₁) E s) : wpAny (model prog w) A (eval (.Attribute e f pos) env) Q E s :=
  Attribute_any_ h (by rw [arm_eval_Attribute, hb])
end

/-! ### readings and rules -/
section
variable {X : Cx} {o e value : Expr} {f : Str} {pos pos' tpos : Pos} {ta tv : TE}
end

/-! ### isinstance -/
section
variable {X : Cx} {pins : List (Addr × Obj)} {σ : St} {H : Hp} {s : Shared} {A : Around} {E : Value → Shared → Prop} {Q : Value → Shared → Prop} {c : Value} {b : Bool}
inductive TyOf (K : PySem.W.Frag) (H : Hp) : V → Value → Prop where
  | non : TyOf K H .non (.type "NoneType")
  | bl (x : Bool) : TyOf K H (.bl x) (.type "bool")
  | int (i : Int) : TyOf K H (.int i) (.type "int")
  | str (x : Str) : TyOf K H (.str x) (.type "str")
  | flt (x : UInt64) : TyOf K H (.flt x) (.type "float")
  | lst {a : Addr} {xs : List V} (e : H a = some (.lst xs)) : TyOf K H (.ref a) (.type "list")
  | frz {a : Addr} {o : Obj} {xs : List V} (e : H a = some (.frz o (.lst xs))) : TyOf K H (.ref a) (.type "list")
  | tup {a : Addr} {xs : List V} (e : H a = some (.tup xs)) : TyOf K H (.ref a) (.type "tuple")
  | dK {a : Addr} {kvs : List (Key × V)} (e : H a = some (.dK kvs)) : TyOf K H (.ref a) (.type "dict")
  | dT {a : Addr} {kvs : List (List Key × V)} (e : H a = some (.dT kvs)) : TyOf K H (.ref a) (.type "dict")
  | ins {a C dx : Addr} {fs : List (Str × V)} (e : H a = some (.ins C dx fs)) (cl : Cls K C) (ha : PySem.W.findIn K (.ref C) "__class__" = some (some (.builtin "object.__class__")))
      (hn : PySem.W.specialIn K (.builtin "object.__class__") "__get__" = some (some (.builtin "getset_descriptor.__get__"))) (htk : PySem.W.takesIn K (.builtin "object.__class__") = some true)
      (hm : PySem.W.mroIn K C (.type "object") = some true) : TyOf K H (.ref a) (.ref C)
theorem isinst_ok {x : V} {u t : Value} (I : Inv X pins σ H s) (rx : RelV x u) (ty : TyOf X.K H x t) (e : PySem.W.kitOne X.K t c = some b) (h : ∀ tk, Q (.bool b) { s with toks := tk }) :
    wpAny (model X.prog X.w) A (call (.builtin "isinstance") [u, c]) Q E s := by
  cases ty with
  | non => cases (show u = Value.none from rx); exact PySem.W.kia_one PySem.W.kitx_none I.kIn True.intro e (fun z => nomatch z) h
  | bl y => cases (show u = Value.bool y from rx); exact PySem.W.kia_one PySem.W.kitx_bool I.kIn True.intro e (fun z => nomatch z) h
  | int i => obtain ⟨t, q⟩ := (show ∃ t, u = Value.int i t from rx); cases q; exact PySem.W.kia_one PySem.W.kitx_int I.kIn True.intro e (fun z => nomatch z) h
  | str y => obtain ⟨t, q⟩ := (show ∃ t, u = Value.str y t from rx); cases q; exact PySem.W.kia_one PySem.W.kitx_str I.kIn True.intro e (fun z => nomatch z) h
  | flt y => obtain ⟨t, q⟩ := (show ∃ t, u = Value.float y t from rx); cases q; exact PySem.W.kia_one PySem.W.kitx_float I.kIn True.intro e (fun z => nomatch z) h
  | @lst a xs ea =>
    cases (show u = Value.ref a from rx)
    obtain ⟨_, _, n, _, h1⟩ := (show ObjOk X.prog X.w H s.heap a (.lst xs) from I.hok a _ ea)
    exact PySem.W.kia_one PySem.W.kitx_list I.kIn ⟨_, h1, rfl⟩ e (fun z => nomatch z) h
  | @frz a ob xs ea =>
    cases (show u = Value.ref a from rx)
    obtain ⟨_, _, _, n, _, h1⟩ := (show ObjOk X.prog X.w H s.heap a (.frz ob (.lst xs)) from I.hok a _ ea)
    exact PySem.W.kia_one PySem.W.kitx_list I.kIn ⟨_, h1, rfl⟩ e (fun z => nomatch z) h
  | @tup a xs ea =>
    cases (show u = Value.ref a from rx)
    obtain ⟨_, _, _, p⟩ := (show ObjOk X.prog X.w H s.heap a (.tup xs) from I.hok a _ ea)
    obtain ⟨o, h1, h2, _⟩ := p
    exact PySem.W.kia_one PySem.W.kitx_tuple I.kIn ⟨o, h1, h2⟩ e (fun z => nomatch z) h
  | @dK a kvs ea =>
    cases (show u = Value.ref a from rx)
    obtain ⟨_, _, vs, _, p⟩ := (show ObjOk X.prog X.w H s.heap a (.dK kvs) from I.hok a _ ea)
    obtain ⟨o, es, ep, h1, h2, _⟩ := p
    exact PySem.W.kia_one PySem.W.kitx_dict I.kIn ⟨o, h1, h2.1⟩ e (fun z => nomatch z) h
  | @dT a kvs ea =>
    cases (show u = Value.ref a from rx)
    obtain ⟨_, _, xs, _, o, es, ep, h1, h2, _⟩ := (show ObjOk X.prog X.w H s.heap a (.dT kvs) from I.hok a _ ea)
    exact PySem.W.kia_one PySem.W.kitx_dict I.kIn ⟨o, h1, h2.1⟩ e (fun z => nomatch z) h
  | @ins a C dx fs ea cl ha hn htk hm =>
    cases (show u = Value.ref a from rx)
    obtain ⟨mA, O, _⟩ := ins_get I.hok ea
    obtain ⟨od, J, _⟩ := O.look
    exact PySem.W.kia_one (PySem.W.kitx_own (cl.get _) cl.hd ha hn htk hm) I.kIn J e (fun z => nomatch z) h
end
end L2

namespace L2
open PySem PySem.Spec PyProof.Rows

/-! ### room -/
structure Room (k : Nat) (A : Around) : Prop where
  hd : A.handled = none
  dp : A.depth + 3 * k + 5 < recursionLimit
  un : A.units + 16 * k + 200 < cLine
  gd : A.guards = some []
theorem Room.mono {j k : Nat} {A : Around} (r : Room k A) (h : j ≤ k) : Room j A := ⟨r.hd, by have := r.dp; omega, by have := r.un; omega, r.gd⟩
theorem Room.deeper {k : Nat} {A : Around} (r : Room (k + 1) A) (env : Env) : Room k (A.deeper env) :=
  ⟨r.hd, by have := r.dp; show A.depth + 1 + 3 * k + 5 < _; omega, by have := r.un; show A.units + 3 + 16 * k + 200 < _; omega, r.gd⟩
theorem Room.in1 {k : Nat} {A : Around} (r : Room (k + 1) A) : Room k A.in1 :=
  ⟨r.hd, by have := r.dp; show A.depth + 3 * k + 5 < _; omega, by have := r.un; show A.units + 1 + 16 * k + 200 < _; omega, r.gd⟩
theorem make_depth {A : Around} {C : Addr} {us : List Value} {kw : List (Str × Value)} : (A.under (.builtin "type.__call__" ⟨.ref C :: us, kw⟩)).depth = A.depth + 1 := by
  first | rfl | simp [Around.under, Code.weight, Code.isCreation, Code.isGuard, Code.isCaller, Code.frames, Code.isFrame, guardIds]
theorem make_units {A : Around} {C : Addr} {us : List Value} {kw : List (Str × Value)} : (A.under (.builtin "type.__call__" ⟨.ref C :: us, kw⟩)).units = A.units + 1 := by
  first | rfl | simp [Around.under, Code.cUnits, Code.frames, Code.isFrame]
theorem make_guards {A : Around} {C : Addr} {us : List Value} {kw : List (Str × Value)} : (A.under (.builtin "type.__call__" ⟨.ref C :: us, kw⟩)).guards = A.guards := by
  first | rfl | simp [Around.under, Code.guards, Code.isGuard, guardIds, pushGuards]
theorem Room.make {k : Nat} {A : Around} (r : Room (k + 1) A) (C : Addr) (us : List Value) (kw : List (Str × Value)) : Room k (A.under (.builtin "type.__call__" ⟨.ref C :: us, kw⟩)) :=
  ⟨r.hd, by have := r.dp; rw [make_depth]; omega, by have := r.un; rw [make_units]; omega, by rw [make_guards]; exact r.gd⟩
theorem Room.depth {k : Nat} {A : Around} (r : Room k A) : A.depth < recursionLimit := by have := r.dp; omega
theorem Room.units0 {k : Nat} {A : Around} (r : Room k A) : A.units < cLine := by have := r.un; omega

/-! ### argument lists and displays -/
def tNil : TA := fun _ H Q => Q [] H
def tCons (ta : TE) (tr : TA) : TA := fun σ H Q => ta σ H fun x H1 => tr σ H1 fun xs H2 => Q (x :: xs) H2
section
variable {X : Cx} {e : Expr} {es : List Expr} {te : TE} {t : TA} {pos : Pos}
theorem pa_nil : PA X [] tNil := by
  with_unfolding_all
    exact fun _ _ _ _ H Q I h => Calls.spliced_nil ⟨[], H, I, .nil, h⟩
theorem pa_cons (ha : PE X e te) (hr : PA X es t) (hs : starEach (e :: es) X.env = (false, eval e X.env) :: starEach es X.env := by rfl) : PA X (e :: es) (tCons te t) := by
  with_unfolding_all
    intro pos pins s σ H Q I h
    rw [hs]
    show wpAny _ _ (spliced ((false, eval e X.env) :: backTo pos (starEach es X.env))) _ _ s
    refine Calls.spliced_cons (thn (ha pins s σ H _ I h) fun u s1 ⟨x, H1, I1, r1, q1⟩ => ?_)
    exact thn (hr pos pins s1 σ H1 _ I1 q1) fun us s2 ⟨xs, H2, I2, r2, q2⟩ => ⟨x :: xs, H2, I2, .cons r1 r2, q2⟩

end

/-! ### what a def promises -/
abbrev Sp := List V → Hp → VK → XK → Prop
abbrev CXT := List Env → Hp → Shared → XK → Value → Shared → Prop

structure Env0 (P : Program) (w : World) (K : PySem.W.Frag) (mg : Str → Option Value) (base : Heap) (A : Around) (outer : List Env) (s : Shared) (H : Hp) : Prop where
  frames : A.frames = some outer
  mod : Mod K mg base
  bs : ∀ b o, base.get? b = some o → s.heap.get? b = some o ∧ H b = none
  bsz : base.objs.size ≤ s.heap.objs.size
  funs : s.heap.FunFrames base outer
  frf : ∀ b ∈ frs outer, H b = none
  hok : HOk P w H s.heap
  bare : AllBare s.gens
def CE (outer : List Env) (P : Program) (w : World) (H : Hp) (s : Shared) (Q : VK) (u : Value) (s' : Shared) : Prop :=
  ∃ v H', s'.os = s.os ∧ AllBare s'.gens ∧ Un (frs outer) [] H H' s.heap s'.heap ∧ HOk P w H' s'.heap ∧ RelV v u ∧ Q v H'
def CR (CX : CXT) (outer : List Env) (P : Program) (w : World) (H : Hp) (s : Shared) (Q : VK) (E : XK) (r : Result) (s' : Shared) : Prop :=
  match r with
  | .ok (.ret u) => CE outer P w H s Q u s'
  | .ok _ => False
  | .error e => CX outer H s E e s'
structure FnOk (P : Program) (w : World) (K : PySem.W.Frag) (mg : Str → Option Value) (base : Heap) (CX : CXT) (k : Nat) (f : Addr) (fd : FuncData) (ps : List Str) (sp : Sp) : Prop where
  len : ∀ vs H Q E, sp vs H Q E → vs.length = ps.length
  run : ∀ (A : Around) (outer : List Env) (s : Shared) (H : Hp) (args : Args) (us : List Value) (vs : List V) (Q : VK) (E : XK), Room k A → Env0 P w K mg base A outer s H → BindsTo s fd args (ps.zip us) → Vals vs us → sp vs H Q E →
    codeAny (model P w) A (.call (.ref f) args) (CR CX outer P w H s Q E) s
theorem Env0.make {P : Program} {w : World} {K : PySem.W.Frag} {mg : Str → Option Value} {base : Heap} {A : Around} {outer : List Env} {s : Shared} {H : Hp} (e : Env0 P w K mg base A outer s H) (C : Addr) (us : List Value) (kw : List (Str × Value)) :
    Env0 P w K mg base (A.under (.builtin "type.__call__" ⟨.ref C :: us, kw⟩)) outer s H := ⟨by first | exact e.frames | (simpa [Around.under, Code.envs, Code.isFrame, pushEnvs] using e.frames), e.mod, e.bs, e.bsz, e.funs, e.frf, e.hok, e.bare⟩
section
variable {X : Cx} {pins : List (Addr × Obj)} {σ : St} {H : Hp} {s s' : Shared}
theorem Inv.env0 (I : Inv X pins σ H s) : Env0 X.prog X.w X.K X.mg X.base X.A X.stack s H :=
  ⟨I.ok.frames, I.ok.mod, I.bs, Nat.le_trans I.ok.bsz I.sz, I.stack, I.stkFree, I.hok, I.bare⟩
theorem Inv.after {Q : VK} {u : Value} (I : Inv X pins σ H s) (h : CE X.stack X.prog X.w H s Q u s') : EP X pins σ Q u s' := by
  obtain ⟨v, H', os, bare, un, hok, r, q⟩ := h
  obtain ⟨hh, g, d, t, os'⟩ := s'
  obtain rfl : os' = s.os := os
  exact ⟨v, H', I.call (h' := hh) (g' := g) (d' := d) (t' := t) (ch := []) un hok bare (fun b z => absurd z (by simp)), r, q⟩
end

/-! ### calls -/
def tCall (sp : Sp) (dvs : List V) (E : XK) (t : TA) : TE := fun σ H Q => t σ H fun vs H1 => sp (vs ++ dvs) H1 Q E
def Binds (K : PySem.W.Frag) (fd : FuncData) (ps : List Str) (ds : List Value) : Prop :=
  ∀ (s : Shared) (us : List Value), K.In s.heap → (us ++ ds).length = ps.length → BindsTo s fd ⟨us, []⟩ (ps.zip (us ++ ds))
theorem Binds.all {K : PySem.W.Frag} {fd : FuncData} {ps : List Str} (h : ∀ us : List Value, us.length = ps.length → bindArgs fd ⟨us, []⟩ = pure (ps.zip us)) : Binds K fd ps [] := fun s us _ hl => by
  rw [List.append_nil] at hl ⊢
  exact .of_eq (h us hl)

def Passes (CX : CXT) (X : Cx) (E : XK) : Prop := ∀ (pins : List (Addr × Obj)) (σ : St) (H : Hp) (s : Shared) (e : Value) (s' : Shared), Inv X pins σ H s → CX X.stack H s E e s' → X.xe e s'

section
variable {X : Cx} {CX : CXT} {k : Nat} {f C : Addr} {fd : FuncData} {ps : List Str} {sp : Sp} {dvs : List V} {ds : List Value} {E : XK} {x m : Str} {p pos apos : Pos} {e o : Expr} {es : List Expr} {ta : TE} {t : TA}

theorem run_fn {pins : List (Addr × Obj)} {σ : St} {H : Hp} {s : Shared} {Q : VK} {us : List Value} {vs : List V} (F : FnOk X.prog X.w X.K X.mg X.base CX k f fd ps sp) (hr : Room k X.A) (hb : Binds X.K fd ps ds) (hd : Vals dvs ds) (hx : Passes CX X E)
    (I : Inv X pins σ H s) (r : Vals vs us) (h : sp (vs ++ dvs) H Q E) : wpAny (model X.prog X.w) X.A (call (.ref f) us) (EP X pins σ Q) X.xe s := by
  have r2 : Vals (vs ++ dvs) (us ++ ds) := r.append hd
  have hl : (us ++ ds).length = ps.length := by rw [← r2.length]; exact F.len _ _ _ _ h
  refine wpAny_call (codeAny_mono (F.run X.A X.stack s H ⟨us, []⟩ (us ++ ds) (vs ++ dvs) Q E hr I.env0 (hb s us I.kIn hl) r2 h) fun r s' hq => ?_)
  cases r with
  | error e => exact hx pins σ H s e s' I hq
  | ok fl =>
    cases fl with
    | ret u => exact I.after hq
    | next => exact False.elim hq
    | brk => exact False.elim hq
    | cont => exact False.elim hq

theorem pe_call (F : FnOk X.prog X.w X.K X.mg X.base CX k f fd ps sp) (hr : Room k X.A) (hg : Gl X x) (hm : X.mg x = some (.ref f)) (hk : PySem.W.keepIn X.K (.ref f) = true) (hb : Binds X.K fd ps ds) (hd : Vals dvs ds) (hx : Passes CX X E)
    (ha : PA X (e :: es) t) (hdb : (x == ("__debug__" : Str)) = false := by decide) (he : starEach (e :: es) X.env = (false, eval e X.env) :: starEach es X.env := by rfl) (hpl : (backTo pos (starEach es X.env)).any (·.1) = false := by rfl) :
    PE X (.Call (.Name x p) (e :: es) [] pos) (tCall sp dvs E t) := by
  with_unfolding_all
    intro pins s σ H Q I h
    refine wpAny_Call_Name_kw (ld_glob I hg hm ?_ hdb)
    refine PySem.W.callWith_K (h₀ := X.base) I.ok.mod.kin hk (thn (ha pos pins s σ H _ I h) fun us s1 ⟨vs, H1, I1, r, q⟩ => ⟨I1.kIn, ?_⟩) he hpl
    exact run_fn F hr hb hd hx I1 r q
structure Mk (K : PySem.W.Frag) (C f : Addr) : Prop where
  makes : PySem.W.makesIn K C = true
  init : PySem.W.findIn K (.ref C) "__init__" = some (some (.ref f))
  fn : PySem.W.isFn K (.ref f) = true
  kp : PySem.W.keepIn K (.ref C) = true

end

/-! ### keywords -/
section
variable {X : Cx} {CX : CXT} {k : Nat} {f C : Addr} {fd : FuncData} {ps ks : List Str} {sp : Sp} {E : XK} {x m : Str} {p pos apos kpos : Pos} {e o : Expr} {es : List Expr} {kws : List Keyword} {te ta : TE} {t tk : TA} {nm : Option Str}
structure KBinds (K : PySem.W.Frag) (fd : FuncData) (ps ks : List Str) (g : List Value → List Value → List Value) (gV : List V → List V → List V) : Prop where
  to : ∀ (s : Shared) (us ws : List Value), K.In s.heap → (g us ws).length = ps.length → BindsTo s fd ⟨us, ks.zip ws⟩ (ps.zip (g us ws))
  rel : ∀ {vs : List V} {us : List Value} {zs : List V} {ws : List Value}, Vals vs us → Vals zs ws → Vals (gV vs zs) (g us ws)
variable {g : List Value → List Value → List Value} {gV : List V → List V → List V}
end

/-! ### a def's body keeps its promise -/
structure FnScope (N P : List Str) (sc : Scope) : Prop where
  kind : sc.kind = .function
  co : sc.isCoroutine = false
  gen : sc.isGenerator = false
  nd : N.Nodup
  pre : N.take P.length = P
  par : ∀ x ∈ P, sc.names.lookup x = some .local ∨ sc.names.lookup x = some .cell
  nofree : ∀ y ∈ sc.names, y.2 ≠ .free

theorem bindL_out {kindOf : Str → Option NameKind} {x : Str} : ∀ {binds : List (Str × Value)} {m : Str → Option Value}, (∀ v, (x, v) ∉ binds) → bindL kindOf binds m x = m x
  | [], _, _ => rfl
  | (n, v) :: r, m, h => by
    unfold bindL
    rw [bindL_out fun w hw => h w (List.mem_cons_of_mem _ hw)]
    split
    · have : x ≠ n := by rintro rfl; exact h v List.mem_cons_self
      simp [this]
    · rfl
theorem bindC_out {kindOf : Str → Option NameKind} {x : Str} : ∀ {binds : List (Str × Value)} {m : Str → Option Value}, (∀ v, (x, v) ∉ binds) → bindC kindOf binds m x = m x
  | [], _, _ => rfl
  | (n, v) :: r, m, h => by
    unfold bindC
    rw [bindC_out fun w hw => h w (List.mem_cons_of_mem _ hw)]
    split
    · rfl
    · have : x ≠ n := by rintro rfl; exact h v List.mem_cons_self
      simp [this]
theorem bindL_get {kindOf : Str → Option NameKind} {x : Str} {v : Value} : ∀ {P : List Str} {vs : List Value} {i : Nat} {m : Str → Option Value}, P.Nodup → P[i]? = some x → vs[i]? = some v → kindOf x = some .local →
    bindL kindOf (P.zip vs) m x = some v
  | [], _, _, _, _, h, _, _ => by simp at h
  | _ :: _, [], _, _, _, _, h, _ => by simp at h
  | p :: P, w :: vs, 0, m, nd, h1, h2, hk => by
    simp at h1 h2; subst h1; subst h2
    show bindL kindOf ((p, w) :: P.zip vs) m p = _
    unfold bindL
    rw [bindL_out fun v hv => (List.nodup_cons.mp nd).1 (List.of_mem_zip hv).1, if_pos hk]
    simp
  | p :: P, w :: vs, i + 1, m, nd, h1, h2, hk => by
    show bindL kindOf ((p, w) :: P.zip vs) m x = _
    unfold bindL
    exact bindL_get (i := i) (List.nodup_cons.mp nd).2 (by simpa using h1) (by simpa using h2) hk
theorem bindC_get {kindOf : Str → Option NameKind} {x : Str} {v : Value} : ∀ {P : List Str} {vs : List Value} {i : Nat} {m : Str → Option Value}, P.Nodup → P[i]? = some x → vs[i]? = some v → kindOf x ≠ some .local →
    bindC kindOf (P.zip vs) m x = some v
  | [], _, _, _, _, h, _, _ => by simp at h
  | _ :: _, [], _, _, _, _, h, _ => by simp at h
  | p :: P, w :: vs, 0, m, nd, h1, h2, hk => by
    simp at h1 h2; subst h1; subst h2
    show bindC kindOf ((p, w) :: P.zip vs) m p = _
    unfold bindC
    rw [bindC_out fun v hv => (List.nodup_cons.mp nd).1 (List.of_mem_zip hv).1, if_neg hk]
    simp
  | p :: P, w :: vs, i + 1, m, nd, h1, h2, hk => by
    show bindC kindOf ((p, w) :: P.zip vs) m x = _
    unfold bindC
    exact bindC_get (i := i) (List.nodup_cons.mp nd).2 (by simpa using h1) (by simpa using h2) hk

def start (N : List Str) (vs : List V) : St := vs.map some ++ List.replicate (N.length - vs.length) none

def cxOf (CX : CXT) (P : Program) (w : World) (K : PySem.W.Frag) (mg : Str → Option Value) (base : Heap) (N : List Str) (qual : Str) (scope : Scope) (f : Addr) (cd : Value) (A : Around) (outer : List Env) (s : Shared) (H : Hp) (E : XK) : Cx where
  prog := P
  w := w
  K := K
  mg := mg
  base := base
  A := A.deeper (envOfC qual scope s.heap.objs.size f cd)
  N := N
  s₀ := s
  H₀ := H
  env := envOfC qual scope s.heap.objs.size f cd
  outer := outer
  stack := envOfC qual scope s.heap.objs.size f cd :: outer
  ex := []
  calm := true
  fn := fun _ => true
  pn := []
  xe := fun e s' => wpAny (model P w) (A.deeper (envOfC qual scope s.heap.objs.size f cd)) (leaving (envOfC qual scope s.heap.objs.size f cd) e) (fun _ s'' => CX outer H s E e s'') (fun e' s'' => CX outer H s E e' s'') s'

theorem cell_has {sc : Scope} {n : Nat} {x : Str} (h : sc.names.lookup x = some .cell) : ∃ c, (cellsFrom n sc.names []).lookup x = some c := by
  have q := PySem.W.cellsFrom_some sc.names n [] (.inl h)
  exact Option.isSome_iff_exists.mp q

theorem inv_start {CX : CXT} {P : Program} {w : World} {K : PySem.W.Frag} {mg : Str → Option Value} {base : Heap} {N ps : List Str} {qual : Str} {scope : Scope} {f : Addr} {cd : Value} {A : Around} {outer : List Env} {s s1 : Shared} {H : Hp} {E : XK} {us : List Value} {vs : List V}
    (S : FnScope N ps scope) (hd : A.handled = none) (e0 : Env0 P w K mg base A outer s H) (hl : vs.length = ps.length) (r : Vals vs us)
    (x : InCallC s s.heap.objs.size (bindL (envOfC qual scope s.heap.objs.size f cd).kindOf (ps.zip us) fun _ => none) (cellsFrom (s.heap.objs.size + 1) scope.names []) (bindC (envOfC qual scope s.heap.objs.size f cd).kindOf (ps.zip us) fun _ => none) s1) :
    Inv (cxOf CX P w K mg base N qual scope f cd A outer s H E) [] (start N vs) H s1 := by
  have hpl : ps.length ≤ N.length := by have := congrArg List.length S.pre; rw [List.length_take] at this; omega
  obtain ⟨h1, tk, rfl, hk⟩ := x.done
  have noA : ∀ b : Addr, b ∉ (cxOf CX P w K mg base N qual scope f cd A outer s H E).ex := fun b z => absurd (show b ∈ ([] : List Addr) from z) (by simp)
  refine ⟨⟨e0.mod, S.kind, rfl, rfl, Nat.le_refl _, fun y z c h1 h2 => ?_, fun y hy => ?_, fun y c _ h => ?_, fun _ => hd, Around.frames_deeper e0.frames, .inr ⟨rfl, rfl⟩, fun b z => absurd z (noA b), e0.bs, e0.bsz, fun b _ _ => noA b, fun b z => absurd z (noA b), e0.funs, e0.frf⟩,
    rfl, e0.bare, Un.kept hk, ⟨_, x.toInCall.ns, fun i y v h1 h2 h3 => ?_⟩, fun y c h => ⟨_, x.cell y c h⟩, e0.hok.fresh (Nat.le_refl _), fun y c h => ?_, fun p hp => absurd (show p ∈ ([] : List (Addr × Obj)) from hp) (by simp), e0.hok.kept hk, ?_⟩
  · exact name_of_addr x.apart (PySem.mem_of_lookup h1) (PySem.mem_of_lookup h2)
  · have hy : scope.names.lookup y = some .cell ∨ scope.names.lookup y = some .free := hy
    rcases hy with hy | hy
    · exact cell_has hy
    · exact absurd rfl (S.nofree _ (PySem.mem_of_lookup hy))
  · exact Nat.le_of_lt (x.above y c (PySem.mem_of_lookup h))
  · have hi : i < vs.length := by
      unfold start at h2
      by_cases hi : i < vs.length
      · exact hi
      · rw [List.getElem?_append_right (by simpa using hi)] at h2
        rw [List.getElem?_replicate] at h2
        split at h2 <;> cases h2
    have ha : vs[i]? = some v := by
      unfold start at h2
      rw [List.getElem?_append_left (by simpa using hi), List.getElem?_map] at h2
      cases e : vs[i]? with
      | none => rw [e] at h2; cases h2
      | some a => rw [e] at h2; cases h2; rfl
    obtain ⟨u, hu, rv⟩ := r.get ha
    have hp : ps[i]? = some y := by
      rw [← S.pre, List.getElem?_take_of_lt (by omega)]; exact h1
    have ndP : ps.Nodup := by rw [← S.pre]; exact S.nd.sublist (List.take_sublist _ _)
    refine ⟨u, rv, ?_⟩
    rcases S.par y (List.mem_of_getElem? hp) with k | k
    · exact .inl ⟨k, bindL_get ndP hp hu k⟩
    · obtain ⟨c, e⟩ := cell_has (n := s.heap.objs.size + 1) k
      refine .inr ⟨.inl k, c, e, ?_⟩
      have q := x.cell y c e
      rw [bindC_get ndP hp hu (by show scope.names.lookup y ≠ _; rw [k]; decide)] at q
      exact q
  · exact e0.hok.fresh (Nat.le_of_lt (x.above y c (PySem.mem_of_lookup h)))
  · unfold start
    show _ = N.length
    rw [List.length_append, List.length_map, List.length_replicate]
    omega

theorem fn_of {CX : CXT} {P : Program} {w : World} {K : PySem.W.Frag} {mg : Str → Option Value} {base : Heap} {k : Nat} {f : Addr} {name qual : Str} {params : Arguments} {body : List Stmt} {scope : Scope} {dV kV doc pm cdv ct oc : Value} {an od : Option Addr}
    {osl : Array (Option Value)} {N ps : List Str} {sp : Sp} (lk : K.lookup f = some ⟨oc, od, .func (PySem.W.fnOf name qual params body scope dV kV doc pm an cdv ct), osl⟩) (hcd : PySem.W.codeIn K cdv qual = true) (S : FnScope N ps scope)
    (len : ∀ vs H Q E, sp vs H Q E → vs.length = ps.length)
    (hbody : ∀ (A : Around) (outer : List Env) (s : Shared) (H : Hp) (vs : List V) (Q : VK) (E : XK), Room k (A.deeper (envOfC qual scope s.heap.objs.size f cdv)) → sp vs H Q E →
      ∃ t, PSs (cxOf CX P w K mg base N qual scope f cdv A outer s H E) body t ∧ t { nx := fun _ H' => Q .non H', rt := Q } (start N vs) H) :
    FnOk P w K mg base CX (k + 1) f (PySem.W.fnOf name qual params body scope dV kV doc pm an cdv ct) ps sp := by
  with_unfolding_all
    refine ⟨len, fun A outer s H args us vs Q E hr e0 hb r hsp => ?_⟩
    have hl := len _ _ _ _ hsp
    have KX : K.In s.heap := e0.mod.kin.keeps fun b o e => (e0.bs b o e).1
    have lim : s.heap.NoLimit := e0.mod.nolimit.keeps fun b o e => (e0.bs b o e).1
    have hkind : ∀ y ∈ ps.zip us, scope.names.lookup y.1 = some .local ∨ (scope.names.lookup y.1 = some .cell ∧ ((cellsFrom (s.heap.objs.size + 1) scope.names []).lookup y.1).isSome = true) := fun ⟨n, v⟩ hy => by
      rcases S.par n (List.of_mem_zip hy).1 with q | q
      · exact .inl q
      · exact .inr ⟨q, PySem.W.cellsFrom_some _ _ _ (.inl q)⟩
    refine codeAny_call_function hr.depth (KX _ _ lk) rfl S.co S.gen rfl (PySem.W.codeRec_of KX hcd) (hb _ _ _ _ ?_)
    refine wpAny_newFunctionEnv_cells S.kind hkind fun env he s1 x => ?_
    subst he
    refine ⟨lim.keeps x.toInCall.keep, codeAny_func ?_⟩
    obtain ⟨t, ht, hq⟩ := hbody A outer s H vs Q E (hr.deeper _) hsp
    have I : Inv (cxOf CX P w K mg base N qual scope f cdv A outer s H E) [] (start N vs) H s1 := inv_start S hr.hd e0 hl r x
    refine wpAny_mono (ht [] s1 (start N vs) H _ I hq) (fun fl s' hs => ?_) fun e s' hs => hs
    have fin : ∀ {σ' : St} {H' : Hp} {v : V} {u : Value}, Inv (cxOf CX P w K mg base N qual scope f cdv A outer s H E) [] σ' H' s' → RelV v u → Q v H' → CE outer P w H s Q u s' :=
      fun {σ' H' v u} J rv q => ⟨v, H', J.os, J.bare, J.base, J.hok, rv, q⟩
    cases fl with
    | ret u =>
      obtain ⟨v, σ', H', J, rv, q⟩ := hs
      exact fin J rv q
    | next =>
      obtain ⟨σ', H', J, q⟩ := hs
      exact fin (v := V.non) (u := Value.none) J rfl q
    | brk =>
      obtain ⟨_, _, _, q⟩ := hs
      exact False.elim q
    | cont =>
      obtain ⟨_, _, _, q⟩ := hs
      exact False.elim q
end L2

namespace L2
open PySem PySem.Spec PyProof.Rows
section
variable {X : Cx} {x : Str} {p pos : Pos} {e : Expr} {es : List Expr} {t : TA} {id T : String} {r : List V → Hp → VK → Prop}

def tCB (r : List V → Hp → VK → Prop) (t : TA) : TE := fun σ H Q => t σ H fun vs H1 => r vs H1 Q
theorem pe_callB (hc : CallR X (.builtin id) r) (hg : Gl X x) (hm : X.mg x = none) (hv : bootBuiltins x = some (.builtin id)) (ha : PA X (e :: es) t) (hn : x ≠ "__name__" := by decide) (hdb : (x == ("__debug__" : Str)) = false := by decide)
    (he : starEach (e :: es) X.env = (false, eval e X.env) :: starEach es X.env := by rfl) (hpl : (backTo pos (starEach es X.env)).any (·.1) = false := by rfl) : PE X (.Call (.Name x p) (e :: es) [] pos) (tCB r t) := by
  with_unfolding_all
    intro pins s σ H Q I h
    refine wpAny_Call_Name_kw (ld_blt I hg hm hv ?_ hn hdb)
    exact PyProof.Rows.callWith_builtin1 (thn (ha pos pins s σ H _ I h) fun us s1 ⟨vs, H1, I1, r1, q1⟩ => hc pins s1 σ H1 vs us Q I1 r1 q1) he hpl
theorem pe_callTy (hc : CallR X (.type T) r) (hg : Gl X x) (hm : X.mg x = none) (hv : bootBuiltins x = some (.type T)) (ha : PA X (e :: es) t) (hn : x ≠ "__name__" := by decide) (hdb : (x == ("__debug__" : Str)) = false := by decide)
    (he : starEach (e :: es) X.env = (false, eval e X.env) :: starEach es X.env := by rfl) (hpl : (backTo pos (starEach es X.env)).any (·.1) = false := by rfl) : PE X (.Call (.Name x p) (e :: es) [] pos) (tCB r t) := by
  with_unfolding_all
    intro pins s σ H Q I h
    refine wpAny_Call_Name_kw (ld_blt I hg hm hv ?_ hn hdb)
    exact PyProof.Rows.callWith_type1 (thn (ha pos pins s σ H _ I h) fun us s1 ⟨vs, H1, I1, r1, q1⟩ => hc pins s1 σ H1 vs us Q I1 r1 q1) he hpl
end
end L2

namespace L2
open PySem PySem.Spec PyProof.Rows

/-! ### lists of pairs as tables -/
section
variable {κ : Type} [DecidableEq κ]
def valV (kvs : List (κ × V)) (k : κ) : Option V := (kvs.find? fun kv => decide (kv.1 = k)).map (·.2)
def putK (kvs : List (κ × V)) (k : κ) (v : V) : List (κ × V) :=
  if (kvs.any fun kv => decide (kv.1 = k)) = true then kvs.map (fun kv => if kv.1 = k then (kv.1, v) else kv) else kvs ++ [(k, v)]
theorem valV_pos {p : κ × V} {r : List (κ × V)} {k : κ} (e : p.1 = k) : valV (p :: r) k = some p.2 := by simp [valV, List.find?_cons, e]
theorem valV_neg {p : κ × V} {r : List (κ × V)} {k : κ} (e : ¬ p.1 = k) : valV (p :: r) k = valV r k := by simp [valV, List.find?_cons, e]
theorem valV_any (k : κ) : ∀ kvs : List (κ × V), (kvs.any fun kv => decide (kv.1 = k)) = (valV kvs k).isSome
  | [] => rfl
  | p :: r => by
    rw [List.any_cons]
    by_cases e : p.1 = k
    · simp only [valV_pos e, decide_eq_true e, Bool.true_or, Option.isSome_some]
    · rw [valV_neg e, decide_eq_false e, Bool.false_or]; exact valV_any k r
theorem valV_map (k j : κ) (y : V) : ∀ kvs : List (κ × V), valV (kvs.map fun kv => if kv.1 = k then (kv.1, y) else kv) j = (valV kvs j).map fun x => if j = k then y else x
  | [] => rfl
  | p :: r => by
    have ih := valV_map k j y r
    rw [List.map_cons]
    by_cases h : p.1 = k
    · rw [if_pos h]
      by_cases e : p.1 = j
      · rw [valV_pos (p := (p.1, y)) e, valV_pos e, Option.map_some, if_pos (e.symm.trans h)]
      · rw [valV_neg (p := (p.1, y)) e, valV_neg e, ih]
    · rw [if_neg h]
      by_cases e : p.1 = j
      · rw [valV_pos (p := p) e, valV_pos e, Option.map_some, if_neg (fun z => h (e.trans z))]
      · rw [valV_neg (p := p) e, valV_neg e, ih]
theorem valV_snoc (k j : κ) (y : V) : ∀ kvs : List (κ × V), valV kvs k = none → valV (kvs ++ [(k, y)]) j = if j = k then some y else valV kvs j
  | [], _ => by
    by_cases e : k = j
    · rw [if_pos e.symm]; exact valV_pos (p := (k, y)) e
    · rw [if_neg (fun z => e z.symm)]; exact valV_neg (p := (k, y)) e
  | p :: r, hn => by
    rw [List.cons_append]
    have hk : ¬ p.1 = k := fun z => by rw [valV_pos z] at hn; cases hn
    rw [valV_neg hk] at hn
    have ih := valV_snoc k j y r hn
    by_cases e : p.1 = j
    · rw [valV_pos e, valV_pos e, if_neg (fun z => hk (e.trans z))]
    · rw [valV_neg e, valV_neg e, ih]
theorem valV_put (kvs : List (κ × V)) (k j : κ) (y : V) : valV (putK kvs k y) j = if j = k then some y else valV kvs j := by
  unfold putK
  by_cases a : (kvs.any fun kv => decide (kv.1 = k)) = true
  · rw [if_pos a, valV_map]
    rw [valV_any] at a
    by_cases e : j = k
    · obtain ⟨x, hx⟩ := Option.isSome_iff_exists.mp a
      rw [if_pos e, e, hx, Option.map_some, if_pos rfl]
    · rw [if_neg e]
      cases valV kvs j with
      | none => rfl
      | some x => rw [Option.map_some, if_neg e]
  · rw [if_neg a]
    refine valV_snoc k j y kvs ?_
    rw [valV_any] at a
    cases q : valV kvs k with
    | none => rfl
    | some x => rw [q] at a; exact (a rfl).elim
theorem length_putK (kvs : List (κ × V)) (k : κ) (v : V) : (putK kvs k v).length ≤ kvs.length + 1 := by
  unfold putK
  split
  · rw [List.length_map]; omega
  · rw [List.length_append, List.length_cons, List.length_nil]; omega
theorem RelO.isSome_eq {o : Option V} {u : Option Value} (r : RelO o u) : o.isSome = u.isSome := by
  cases o with
  | none => cases u with
    | none => rfl
    | some _ => exact (show False from r).elim
  | some _ => cases u with
    | none => exact (show False from r).elim
    | some _ => rfl
theorem KV.val {kvs : List (κ × V)} {vs : List (κ × Value)} (r : KV kvs vs) (k : κ) : RelO (valV kvs k) (valueAt vs k) := by
  unfold KV at r
  induction r with
  | nil => exact True.intro
  | @cons p q ps qs h t ih =>
    obtain ⟨h1, h2⟩ := h
    by_cases e : p.1 = k
    · have e' : q.1 = k := h1.symm.trans e
      have b : valueAt (q :: qs) k = some q.2 := by simp [valueAt, List.find?_cons, e']
      rw [valV_pos e, b]; exact h2
    · have e' : ¬ q.1 = k := fun z => e (h1.trans z)
      have b : valueAt (q :: qs) k = valueAt qs k := by simp [valueAt, List.find?_cons, e']
      rw [valV_neg e, b]; exact ih
theorem KV.any {kvs : List (κ × V)} {vs : List (κ × Value)} (r : KV kvs vs) (k : κ) : (kvs.any fun kv => decide (kv.1 = k)) = vs.any fun kv => decide (kv.1 = k) := by
  unfold KV at r
  induction r with
  | nil => rfl
  | cons h t ih => rw [List.any_cons, List.any_cons, ih, h.1]
theorem KV.repl {kvs : List (κ × V)} {vs : List (κ × Value)} (r : KV kvs vs) (k : κ) {y : V} {u : Value} (ry : RelV y u) :
    KV (kvs.map fun kv => if kv.1 = k then (kv.1, y) else kv) (vs.map fun kv => if kv.1 = k then (kv.1, u) else kv) := by
  unfold KV at r ⊢
  induction r with
  | nil => exact .nil
  | @cons p q ps qs h t ih =>
    rw [List.map_cons, List.map_cons]
    refine .cons ?_ ih
    obtain ⟨h1, h2⟩ := h
    by_cases e : p.1 = k
    · rw [if_pos e, if_pos (h1.symm.trans e)]; exact ⟨h1, ry⟩
    · rw [if_neg e, if_neg (fun z => e (h1.trans z))]; exact ⟨h1, h2⟩
theorem KV.put {kvs : List (κ × V)} {vs : List (κ × Value)} (r : KV kvs vs) (k : κ) {y : V} {u : Value} (ry : RelV y u) : KV (putK kvs k y) (stored vs k u) := by
  unfold putK stored
  rw [r.any k]
  by_cases e : (vs.any fun kv => decide (kv.1 = k)) = true
  · rw [if_pos e, if_pos e]; exact r.repl k ry
  · rw [if_neg e, if_neg e]; exact Paired.snoc r ⟨rfl, ry⟩
theorem KV.keys {kvs : List (κ × V)} {vs : List (κ × Value)} (r : KV kvs vs) : kvs.map (·.1) = vs.map (·.1) := by
  unfold KV at r
  induction r with
  | nil => rfl
  | cons h t ih => rw [List.map_cons, List.map_cons, ih, h.1]
theorem KV.length {kvs : List (κ × V)} {vs : List (κ × Value)} (r : KV kvs vs) : kvs.length = vs.length := Paired.length r
end


/-! ### a tracked dict, its keys ints and texts or tuples of these -/
theorem kV_is {P : Program} {w : World} {k : Key} {u : Value} (r : RelV (kV k) u) : (mixKind P w).is k u = true := by
  cases k with
  | inl i => obtain ⟨t, e⟩ := (show ∃ t, u = Value.int i t from r); subst e; exact mixKind_int P w i t
  | inr x => obtain ⟨t, e⟩ := (show ∃ t, u = Value.str x t from r); subst e; exact mixKind_str P w x t
theorem items_are {P : Program} {w : World} : ∀ {ks : List Key} {us : List Value}, Vals (ks.map kV) us → ItemsAre (mixKind P w) ks us
  | [], _, r => by rw [List.map_nil] at r; cases r; exact .nil
  | k :: ks, _, r => by
    rw [List.map_cons] at r
    cases r with
    | cons h t => exact .cons (kV_is h) (items_are t)

abbrev KT (H : Hp) : List (List Key × V) → List (List Key × Addr × Value) → Prop := Paired fun p q => p.1 = q.1 ∧ H q.2.1 = some (.tup (p.1.map kV)) ∧ RelV p.2 q.2.2
theorem KT.val {H : Hp} {kvs : List (List Key × V)} {xs : List (List Key × Addr × Value)} (r : KT H kvs xs) (k : List Key) : RelO (valV kvs k) ((atKey xs k).map (·.2)) := by
  induction r with
  | nil => exact True.intro
  | @cons p q ps qs h t ih =>
    obtain ⟨h1, _, h2⟩ := h
    by_cases e : p.1 = k
    · have e' : q.1 = k := h1.symm.trans e
      have b : atKey (q :: qs) k = some q.2 := by simp [atKey, List.find?_cons, e']
      rw [valV_pos e, b]; exact h2
    · have e' : ¬ q.1 = k := fun z => e (h1.trans z)
      have b : atKey (q :: qs) k = atKey qs k := by simp [atKey, List.find?_cons, e']
      rw [valV_neg e, b]; exact ih
theorem KT.repl {H : Hp} {kvs : List (List Key × V)} {xs : List (List Key × Addr × Value)} (r : KT H kvs xs) (k : List Key) {y : V} {u : Value} (ry : RelV y u) :
    KT H (kvs.map fun kv => if kv.1 = k then (kv.1, y) else kv) (xs.map (putAt k u)) := by
  induction r with
  | nil => exact .nil
  | @cons p q ps qs h t ih =>
    rw [List.map_cons, List.map_cons]
    refine .cons ?_ ih
    obtain ⟨h1, h2, h3⟩ := h
    unfold putAt
    by_cases e : p.1 = k
    · rw [if_pos e, if_pos (h1.symm.trans e)]; exact ⟨h1, h2, ry⟩
    · rw [if_neg e, if_neg (fun z => e (h1.trans z))]; exact ⟨h1, h2, h3⟩
theorem KT.put {H : Hp} {kvs : List (List Key × V)} {xs : List (List Key × Addr × Value)} (r : KT H kvs xs) (k : List Key) {b : Addr} {y : V} {u : Value} (hb : H b = some (.tup (k.map kV))) (ry : RelV y u) :
    KT H (putK kvs k y) (storedH xs k b u) := by
  have e : (kvs.any fun kv => decide (kv.1 = k)) = (atKey xs k).isSome := by
    rw [valV_any, (r.val k).isSome_eq, Option.isSome_map]
  unfold putK storedH
  rw [e]
  by_cases q : (atKey xs k).isSome = true
  · rw [if_pos q, if_pos q]; exact r.repl k ry
  · rw [if_neg q, if_neg q]; exact Paired.snoc r ⟨rfl, hb, ry⟩
theorem KT.keeps {H H' : Hp} {kvs : List (List Key × V)} {xs : List (List Key × Addr × Value)} (r : KT H kvs xs) (ht : ∀ b ys, H b = some (.tup ys) → H' b = some (.tup ys)) : KT H' kvs xs :=
  Paired.mapP r fun _ _ z => ⟨z.1, ht _ _ z.2.1, z.2.2⟩

section
variable {P : Program} {w : World} {H : Hp} {h : Heap} {a : Addr}
theorem rd_of {u : HO} (ok : HOk P w H h) (e : Rd H a u) : ObjOk P w H h a u := e.ok ok
theorem dk_rd {kvs : List (Key × V)} (ok : HOk P w H h) (e : Rd H a (.dK kvs)) : kvs.length ≤ sizeLine ∧ (a == sysModules) = false ∧ ∃ vs, KV kvs vs ∧ h.DictOf (mixKind P w) a vs :=
  show ObjOk P w H h a (.dK kvs) from rd_of ok e
theorem dk_of {kvs : List (Key × V)} (ok : HOk P w H h) (e : H a = some (.dK kvs)) : kvs.length ≤ sizeLine ∧ (a == sysModules) = false ∧ ∃ vs, KV kvs vs ∧ h.DictOf (mixKind P w) a vs := dk_rd ok (.inl e)
theorem key_of {ks : List Key} (ok : HOk P w H h) (e : H a = some (.tup (ks.map kV))) : (tupleKind (mixKind P w)).is h ks a := by
  obtain ⟨_, its, r, o, h1, h2, n, h3⟩ := (show ObjOk P w H h a (.tup (ks.map kV)) from ok a _ e)
  exact ⟨o, its.toArray, n, h1, h2, h3, by simpa using items_are r⟩
theorem dt_rd {kvs : List (List Key × V)} (ok : HOk P w H h) (e : Rd H a (.dT kvs)) : kvs.length ≤ sizeLine ∧ (a == sysModules) = false ∧
    ∃ xs, KT H kvs xs ∧ h.DictOfH (tupleKind (mixKind P w)) a xs := by
  obtain ⟨z, y, xs, r, o, es, ep, h1, h2, h3, h4, h5⟩ := (show ObjOk P w H h a (.dT kvs) from rd_of ok e)
  refine ⟨z, y, xs, r, o, es, ep, h1, h2, h3, h4, fun x hx => ?_, h5⟩
  have all : ∀ {l : List (List Key × V)} {m : List (List Key × Addr × Value)}, KT H l m → ∀ x ∈ m, (tupleKind (mixKind P w)).is h x.1 x.2.1 := by
    intro l m q
    induction q with
    | nil => intro x hx; exact nomatch hx
    | @cons p q ps qs hq t ih =>
      intro x hx
      rcases List.mem_cons.mp hx with e | hx
      · subst e
        exact key_of ok (by rw [← hq.1]; exact hq.2.1)
      · exact ih x hx
  exact all r x hx
theorem dt_of {kvs : List (List Key × V)} (ok : HOk P w H h) (e : H a = some (.dT kvs)) : kvs.length ≤ sizeLine ∧ (a == sysModules) = false ∧
    ∃ xs, KT H kvs xs ∧ h.DictOfH (tupleKind (mixKind P w)) a xs := dt_rd ok (.inl e)
end

def DGet (H : Hp) (a : Addr) (y : V) (r : Option V) : Prop :=
  (∃ kvs k, Rd H a (.dK kvs) ∧ y = kV k ∧ r = valV kvs k) ∨ ∃ kvs k b, Rd H a (.dT kvs) ∧ y = .ref b ∧ H b = some (.tup (k.map kV)) ∧ r = valV kvs k
def DPut (H : Hp) (a : Addr) (y v : V) (H' : Hp) : Prop :=
  (∃ kvs k, H a = some (.dK kvs) ∧ y = kV k ∧ kvs.length < sizeLine ∧ H' = upd H a (.dK (putK kvs k v))) ∨
  ∃ kvs k b, H a = some (.dT kvs) ∧ y = .ref b ∧ H b = some (.tup (k.map kV)) ∧ kvs.length < sizeLine ∧ H' = upd H a (.dT (putK kvs k v))
theorem DPut.k {H : Hp} {a : Addr} {kvs : List (Key × V)} {k : Key} {v : V} (e : H a = some (.dK kvs)) (hl : kvs.length < sizeLine) : DPut H a (kV k) v (upd H a (.dK (putK kvs k v))) := .inl ⟨kvs, k, e, rfl, hl, rfl⟩
section
variable {X : Cx} {pins : List (Addr × Obj)} {σ : St} {H : Hp} {s : Shared} {a : Addr} {y v : V} {u r : Value} {o : Option V} {A : Around} {E : Value → Shared → Prop}

theorem Inv.big (I : Inv X pins σ H s) : sysModules < s.heap.objs.size := by
  have h : mainGlobals < s.heap.objs.size := (I.mod.glob.keeps I.bk).lt
  exact Nat.lt_trans (by decide) h

theorem d_getItem {Q : Value → Shared → Prop} (hu : A.units + 1 < cLine) (I : Inv X pins σ H s) (g : DGet H a y (some v)) (ry : RelV y u) (h : ∀ w' s', Inv X pins σ H s' → RelV v w' → Q w' s') :
    wpAny (model X.prog X.w) A (getItem (.ref a) u) Q E s := by
  rcases g with ⟨kvs, k, e, ey, l⟩ | ⟨kvs, k, b, e, ey, eb, l⟩
  · subst ey
    obtain ⟨z, hd, vs, rel, dd⟩ := dk_rd I.hok e
    obtain ⟨w', hw, rw'⟩ := RelO.some_of (v := v) (o := valueAt vs k) (by rw [l]; exact rel.val k)
    exact wpAny_getItem_of (kV_is ry) dd.mapOf hw (h w' _ (I.tok _) rw')
  · subst ey
    cases (show u = Value.ref b from ry)
    obtain ⟨z, hd, xs, rel, dd⟩ := dt_rd I.hok e
    obtain ⟨w', hw, rw'⟩ := RelO.some_of (v := v) (o := (atKey xs k).map (·.2)) (by rw [l]; exact rel.val k)
    obtain ⟨p, hp, hp2⟩ := Option.map_eq_some_iff.mp hw
    refine wpAny_getItem_heap (tupleKind_room_in1 hu) (key_of I.hok eb) dd hp ?_
    rw [hp2]
    exact h w' _ (I.tok _) rw'
theorem d_write {h' : Heap} {t' : Nat} {ob : HO} (I : Inv X pins σ H s) (mu : Mut (H a)) (hs : Heap.SameBut a s.heap h') (he : ∃ q, h'.get? a = some q) (new : ObjOk X.prog X.w (upd H a ob) h' a ob) :
    Inv X pins σ (upd H a ob) { s with heap := h', toks := t' } :=
  I.write (x := a) (e := a) mu (.inl rfl) (fun b q hb z => (hs.2 b hb).trans z) he new
theorem dk_new {P : Program} {w : World} {H' : Hp} {h' : Heap} {kvs : List (Key × V)} {vs : List (Key × Value)} (z : kvs.length ≤ sizeLine) (hd : (a == sysModules) = false) (rel : KV kvs vs) (dd : h'.DictOf (mixKind P w) a vs) :
    ObjOk P w H' h' a (.dK kvs) := ⟨z, hd, vs, rel, dd⟩
theorem d_setItem {H' : Hp} {Q : Unit → Shared → Prop} (hu : A.units + 1 < cLine) (I : Inv X pins σ H s) (g : DPut H a y v H') (ry : RelV y u) (rv : RelV v r) (h : ∀ s', Inv X pins σ H' s' → Q () s') :
    wpAny (model X.prog X.w) A (setItem (.ref a) u r) Q E s := by
  rcases g with ⟨kvs, k, e, ey, l, eH⟩ | ⟨kvs, k, b, e, ey, eb, l, eH⟩
  · subst ey eH
    obtain ⟨z, hd, vs, rel, dd⟩ := dk_of I.hok e
    have hz : vs.length ≤ sizeLine := by rw [← rel.length]; exact z
    have hl : (putK kvs k v).length ≤ sizeLine := by have := length_putK kvs k v; omega
    refine wpAny_setItem_pairs (hsz := hz) (kV_is ry) dd fun h' dd' hs => h _ ?_
    have he : ∃ q, h'.get? a = some q := let ⟨q, _, _, hq, _⟩ := dd'; ⟨q, hq⟩
    exact d_write I (by rw [e]; exact True.intro) hs he (dk_new hl hd (rel.put k rv) dd')
  · subst ey eH
    cases (show u = Value.ref b from ry)
    obtain ⟨z, hd, xs, rel, dd⟩ := dt_of I.hok e
    have hz : xs.length ≤ sizeLine := by rw [← Paired.length rel]; exact z
    have hl : (putK kvs k v).length ≤ sizeLine := by have := length_putK kvs k v; omega
    refine wpAny_setItem_heap (hsz := hz) (tupleKind_room_in1 hu) (key_of I.hok eb) dd fun h' dd' hs => h _ ?_
    obtain ⟨q, es, ep, hq, h2, h3, h4, _, h5⟩ := dd'
    refine d_write I (by rw [e]; exact True.intro) hs ⟨q, hq⟩ ⟨hl, hd, _, (rel.put k eb rv).keeps fun c ys ec => ?_, q, es, ep, hq, h2, h3, h4, h5⟩
    rw [upd_ne (ne_of ec e (fun z => nomatch z))]
    exact ec
end

section
variable {X : Cx} {pins : List (Addr × Obj)} {σ : St} {H : Hp} {s : Shared} {a : Addr} {kvs : List (Key × V)} {k : Key} {u : Value} {A : Around} {E : Value → Shared → Prop}
theorem d_clear {Q : Value → Shared → Prop} (I : Inv X pins σ H s) (e : H a = some (.dK kvs)) (h : ∀ s', Inv X pins σ (upd H a (.dK [])) s' → Q .none s') : wpAny (model X.prog X.w) A (call (.builtin "dict.clear") [.ref a]) Q E s := by
  obtain ⟨z, hd, vs, rel, dd⟩ := dk_of I.hok e
  refine call_meetsIn PySem.F.slot_dict_clear dd.typeIs PySem.F.entry_dict_clear (PySem.F.args_dict_clear_1 _) (meets_dict_clear (mixKind X.prog X.w) a) ⟨vs, dd, by rw [← rel.length]; exact z, fun h' dd' hs => h _ ?_⟩
  have he : ∃ q, h'.get? a = some q := let ⟨q, _, _, hq, _⟩ := dd'; ⟨q, hq⟩
  exact d_write (t' := s.toks) I (by rw [e]; exact True.intro) hs he (dk_new (Nat.zero_le _) hd .nil dd')
end


/-! ### readings and rules -/
def NoSl (i : Expr) : Prop := ∀ ov iv, subscripted i false ov iv = operate [ov, iv] (getItem ov iv)
theorem subD_of {prog : Program} {w : World} {A : Around} {E : Value → Shared → Prop} {s : Shared} {env : Env} {value slice : Expr} {pos : Pos} {T id : String} {Q : Value → Shared → Prop}
    (hl : typeLookup (.type T) "__getitem__" = pure (some (.builtin id))) (hs : NoSl slice)
    (h : wpAny (model prog w) A (eval value env) (fun o s₁ => wpAny (model prog w) A (eval slice env) (fun i s₂ => s₂.TypeIs o T ∧ wpAny (model prog w) A (getItem o i) Q E s₂) E s₁) E s) :
    wpAny (model prog w) A (eval (.Subscript value slice pos) env) Q E s := by
  refine Subscript_ (wpAny_mono h (fun o s₁ h₁ => wpAny_mono h₁ (fun i s₂ h₂ => ?_) fun _ _ x => x) fun _ _ x => x)
  obtain ⟨hT, h₂⟩ := h₂
  unfold subscriptTail
  refine wpAny_bind ?_
  rw [getitemInPython_of_ne hT.not_modules]
  refine wpAny_bind (wpAny_specialOf hT hl ?_)
  have fin : wpAny (model prog w) A (subscripted slice false o i) (fun r s₃ => wpAny (model prog w) A (letTemporaryGo value o r >>= fun _ => pure r) Q E s₃) E s₂ := by
    rw [hs o i]
    exact wpAny_operating (wpAny_mono h₂ (fun r s₃ h₃ => wpAny_bind (wpAny_letTemporaryGo (wpAny_pure h₃))) fun _ _ x => x)
  first
    | exact wpAny_pure (wpAny_bind fin)
    | exact wpAny_bind (wpAny_pure (wpAny_bind fin))
    | exact wpAny_bind fin

theorem dict_typeIs {X : Cx} {pins : List (Addr × Obj)} {σ : St} {H : Hp} {s : Shared} {a : Addr} {y : V} {o : Option V} (I : Inv X pins σ H s) (g : DGet H a y o) : s.TypeIs (.ref a) "dict" := by
  rcases g with ⟨kvs, k, e, _, _⟩ | ⟨kvs, k, b, e, _, _, _⟩
  · obtain ⟨_, _, vs, _, dd⟩ := dk_rd I.hok e
    exact dd.typeIs
  · obtain ⟨_, _, xs, _, dd⟩ := dt_rd I.hok e
    exact dd.typeIs
def tDGet (td ty : TE) : TE := fun σ H Q => td σ H fun x H1 => ty σ H1 fun y H2 => ∃ a v, x = .ref a ∧ DGet H2 a y (some v) ∧ Q v H2
def sDPut (td ty tv : TE) : TS := fun D σ H => tv σ H fun v H1 => td σ H1 fun x H2 => ty σ H2 fun y H3 => ∃ a H4, x = .ref a ∧ DPut H3 a y v H4 ∧ D.nx σ H4
section
variable {X : Cx} {o i e value : Expr} {pos pos' tpos : Pos} {td ty tv : TE}
theorem pe_dget (hu : X.A.units + 1 < cLine) (ho : PE X o td) (hi : PE X i ty) (hs : NoSl i) : PE X (.Subscript o i pos) (tDGet td ty) := by
  with_unfolding_all
    intro pins s σ H Q I h
    refine subD_of PySem.F.slot_dict_getitem.lookup hs (thn (ho pins s σ H _ I h) fun u s1 ⟨x, H1, I1, rx, q1⟩ => thn (hi pins s1 σ H1 _ I1 q1) fun iv s2 ⟨y, H2, I2, ry, a, v, ex, g, q2⟩ => ?_)
    subst ex
    obtain rfl : u = Value.ref a := rx
    exact ⟨dict_typeIs I2 g, d_getItem hu I2 g ry fun w' s3 I3 rw' => ⟨v, H2, I3, rw', q2⟩⟩
theorem ps_dput (hu : X.A.units + 1 < cLine) (ho : PE X o td) (hi : PE X i ty) (hv : PE X value tv) (hs : swapsWith value (some (.Subscript o i pos')) pos.line X.env = pure false) :
    PS X (.Assign [.Subscript o i pos'] value pos) (sDPut td ty tv) := by
  with_unfolding_all
    intro pins s σ H D I h
    refine wpAny_Assign_Subscript (thn (hv pins s σ H _ I h) fun r s1 ⟨v, H1, I1, rv, q1⟩ => thn (ho pins s1 σ H1 _ I1 q1) fun u s2 ⟨x, H2, I2, rx, q2⟩ => thn (hi pins s2 σ H2 _ I2 q2) fun iv s3 ⟨y, H3, I3, ry, a, H4, ex, g, q3⟩ => ?_) hs
    subst ex
    obtain rfl : u = Value.ref a := rx
    exact d_setItem hu I3 g ry rv fun s4 I4 => ⟨σ, H4, I4, q3⟩
end


/-! ### displays -/
theorem dk_empty {P : Program} {w : World} {H : Hp} (h : Heap) (hb : sysModules < h.objs.size) : ObjOk P w H (h.push { cls := .type "dict", data := .dict #[] }) h.objs.size (.dK []) :=
  ⟨Nat.zero_le _, beq_eq_false_iff_ne.mpr (Ne.symm (Nat.ne_of_lt hb)), [], .nil, Heap.DictOf.new h⟩
def tDNewK : TE := fun _ H Q => ∀ p, H p = none → Q (.ref p) (upd H p (.dK []))
section
variable {X : Cx} {pos : Pos}
theorem pe_dnewK : PE X (.Dict [] [] pos) tDNewK := by
  with_unfolding_all
    exact fun pins s σ H Q I h =>
      wpAny_Dict_empty ⟨.ref s.heap.objs.size, _, I.laid (a := s.heap.objs.size) (o := .dK []) (t' := s.toks) (fun _ _ q => Heap.get?_push_of_some _ q) (Nat.le_refl _) (dk_empty s.heap I.big), rfl, h _ (I.hok.fresh (Nat.le_refl _))⟩
end

/-! ### methods -/
structure M1 (X : Cx) (o : Expr) (m : Str) (apos : Pos) (e : Expr) (cpos : Pos) : Prop where
  base : attributeBase o m X.env (eval o X.env) = eval o X.env
  few : ((backTo cpos (starEach [e] X.env)).all (fun x => !x.1) && (backToKw cpos (keywordEach [] X.env)).all (fun x => x.1.isSome)
    && decide (([e] : List Expr).length + ([] : List Keyword).length + (if ([] : List Keyword).isEmpty then 0 else 1) < 30)) = true
  line : (apos.endLine == cpos.line) = true
  trees : backTo cpos (starEach [e] X.env) = [(false, eval e X.env)]
structure M2 (X : Cx) (o : Expr) (m : Str) (apos : Pos) (e f : Expr) (cpos : Pos) : Prop where
  base : attributeBase o m X.env (eval o X.env) = eval o X.env
  few : ((backTo cpos (starEach [e, f] X.env)).all (fun x => !x.1) && (backToKw cpos (keywordEach [] X.env)).all (fun x => x.1.isSome)
    && decide (([e, f] : List Expr).length + ([] : List Keyword).length + (if ([] : List Keyword).isEmpty then 0 else 1) < 30)) = true
  line : (apos.endLine == cpos.line) = true
  trees : backTo cpos (starEach [e, f] X.env) = [(false, eval e X.env), (false, eval f X.env)]

section
variable {X : Cx} {pins : List (Addr × Obj)} {σ : St} {H : Hp} {s : Shared} {a : Addr} {y d : V} {u r : Value} {o : Option V} {A : Around} {E : Value → Shared → Prop}
end

section
variable {X : Cx} {o e f : Expr} {apos cpos : Pos} {td ty tx : TE}
end

/-! ### dict(d): a copy -/
section
variable {X : Cx} {pins : List (Addr × Obj)} {σ : St} {H : Hp} {s : Shared} {a : Addr} {kvs : List (Key × V)} {A : Around} {E : Value → Shared → Prop}
end


section
variable {X : Cx} {pins : List (Addr × Obj)} {σ : St} {H : Hp} {s : Shared} {a : Addr} {y : V} {u : Value} {A : Around} {E : Value → Shared → Prop}
end
end L2

namespace HT
open PySem PyProof.Rows

def lexLt : List Int → List Int → Bool
  | [], [] => false
  | [], _ :: _ => true
  | _ :: _, [] => false
  | x :: xs, y :: ys => if x = y then lexLt xs ys else decide (x < y)
theorem lexLt_cons (x y : Int) (xs ys : List Int) : lexLt (x :: xs) (y :: ys) = if x = y then lexLt xs ys else decide (x < y) := rfl
theorem lexLt_nil_nil : lexLt [] [] = false := rfl
section
open PySem.SeqAt
open PySem.AutoSeq1 (wpAny_loadPart')
open PySem.MeetsSeq PySem.MeetsSeq2 PySem.MeetsSeq3

end

section
variable {prog : Program} {w : World} {A : Around} {E : Value → Shared → Prop} {s : Shared}

/-! ### t[a:b], not the whole -/
def sIx (n d : Nat) : Option Int → Nat
  | none => d
  | some v => if v < 0 then (v + (n : Int)).toNat else min v.toNat n
theorem sIx_none (n d : Nat) : sIx n d none = d := rfl
theorem sIx_nat (n d k : Nat) : sIx n d (some (k : Int)) = min k n := by
  show (if (k : Int) < 0 then ((k : Int) + (n : Int)).toNat else min (k : Int).toNat n) = min k n
  rw [if_neg (by omega), Int.toNat_natCast]
end
end HT

namespace L2
open PySem PySem.Spec PyProof.Rows

/-! ### the parts of a slice -/
abbrev TO := St → Hp → (Option Int → Hp → Prop) → Prop
def PO (X : Cx) (e : Option Expr) (t : TO) : Prop :=
  ∀ (pins : List (Addr × Obj)) (s : Shared) (σ : St) (H : Hp) (Q : Option Int → Hp → Prop), Inv X pins σ H s → t σ H Q →
    wpAny (model X.prog X.w) X.A (evalPart e X.env) (fun u s' => ∃ o H', Inv X pins σ H' s' ∧ IsPart u o ∧ Q o H') X.xe s
def tNoPart : TO := fun _ H Q => Q none H
def tPart (t : TE) : TO := fun σ H Q => t σ H fun x H1 => ∃ i, x = .int i ∧ Q (some i) H1

section
variable {X : Cx} {e : Expr} {te : TE} {lo hi : Option Expr} {tl th : TO} {pos p2 : Pos}

theorem po_none : PO X none tNoPart := by
  intro pins s σ H Q I h
  rw [evalPart_none]
  exact wpAny_pure ⟨none, H, I, .none, h⟩
theorem po_some (h : PE X e te) : PO X (some e) (tPart te) := by
  with_unfolding_all
    intro pins s σ H Q I hw
    rw [evalPart_some]
    refine thn (h pins s σ H _ I hw) fun u s1 ⟨x, H1, I1, r1, q1⟩ => ?_
    obtain ⟨i, rfl, q⟩ := q1
    obtain ⟨t, rfl⟩ := r1
    exact ⟨some i, H1, I1, .int i t, q⟩

def SlR (X : Cx) (r : V → Option Int → Option Int → Hp → VK → Prop) : Prop :=
  ∀ (pins : List (Addr × Obj)) (s : Shared) (σ : St) (H : Hp) (x : V) (v vl vu : Value) (lo hi : Option Int) (sl : Addr) (Q : VK), Inv X pins σ H s → RelV x v → s.heap.IsSliceOf sl vl vu .none → IsPart vl lo → IsPart vu hi → r x lo hi H Q →
    ∃ T id, typeLookup (.type T) "__getitem__" = pure (some (.builtin id)) ∧ s.TypeIs v T ∧ wpAny (model X.prog X.w) X.A (getItem v (.ref sl)) (EP X pins σ Q) X.xe s
def tSl (r : V → Option Int → Option Int → Hp → VK → Prop) (te : TE) (tl th : TO) : TE := fun σ H Q => te σ H fun x H1 => tl σ H1 fun l H2 => th σ H2 fun u H3 => r x l u H3 Q
theorem pe_slice {r : V → Option Int → Option Int → Hp → VK → Prop} (hr : SlR X r) (he : PE X e te) (hl : PO X lo tl) (hu : PO X hi th) : PE X (.Subscript e (.Slice lo hi none p2) pos) (tSl r te tl th) := by
  with_unfolding_all
    intro pins s σ H Q I h
    refine Subscript_ (thn (he pins s σ H _ I h) fun v s1 ⟨x, H1, I1, r1, q1⟩ => ?_)
    refine wpAny_Slice (thn (hl pins s1 σ H1 _ I1 q1) fun vl s2 ⟨l, H2, I2, pl, q2⟩ => thn (hu pins s2 σ H2 _ I2 q2) fun vu s3 ⟨u, H3, I3, pu, q3⟩ => ?_)
    rw [evalPart_none]
    refine wpAny_pure ?_
    have I4 : Inv X pins σ H3 { s3 with heap := s3.heap.push { cls := .type "slice", data := .fields #[vl, vu, .none] } } := I3.kept (t' := s3.toks) fun b ob q => Heap.get?_push_of_some _ q
    obtain ⟨T, id, hT, ht, hg⟩ := hr pins { s3 with heap := s3.heap.push { cls := .type "slice", data := .fields #[vl, vu, .none] } } σ H3 x v vl vu l u s3.heap.objs.size Q I4 r1 (Heap.IsSliceOf.new ..) pl pu q3
    show wpAny (model X.prog X.w) X.A (subscriptTail e (.Slice lo hi none p2) v (.ref s3.heap.objs.size)) (EP X pins σ Q) X.xe { s3 with heap := s3.heap.push { cls := .type "slice", data := .fields #[vl, vu, .none] } }
    exact tail_any (ops := [.ref s3.heap.objs.size, v]) ht hT hg (by with_unfolding_all rfl)

def cutV (xs : List V) (lo hi : Option Int) : List V := (xs.drop (HT.sIx xs.length 0 lo)).take (HT.sIx xs.length xs.length hi - HT.sIx xs.length 0 lo)
theorem cutV_length (xs : List V) (lo hi : Option Int) : (cutV xs lo hi).length ≤ xs.length := by
  unfold cutV
  rw [List.length_take, List.length_drop]
  omega
/-! ### t < u, t + u -/
end
end L2

namespace L2
open PySem PySem.Spec PyProof.Rows

/-! ### places -/
def ixN (n : Nat) (i : Int) : Option Nat := if 0 ≤ i then (if i < n then some i.toNat else none) else if -(n : Int) ≤ i then some (i + n).toNat else none
def atI {α : Type} (xs : List α) (i : Int) : Option α := (ixN xs.length i).bind fun j => xs[j]?
theorem ixN_seq {n : Nat} {i : Int} {j : Nat} (h : ixN n i = some j) : seqIndex? i n = some j ∧ j < n ∧ -(n : Int) ≤ i ∧ i < n := by
  unfold ixN at h
  by_cases h0 : 0 ≤ i
  · rw [if_pos h0] at h
    by_cases h1 : i < n
    · rw [if_pos h1] at h
      have e : i.toNat = j := Option.some.inj h
      exact ⟨by rw [seqIndex_of h0 h1, e], by omega, by omega, h1⟩
    · rw [if_neg h1] at h; cases h
  · rw [if_neg h0] at h
    by_cases h1 : -(n : Int) ≤ i
    · rw [if_pos h1] at h
      have e : (i + n).toNat = j := Option.some.inj h
      exact ⟨by rw [seqIndex_neg (by omega) h1, e], by omega, h1, by omega⟩
    · rw [if_neg h1] at h; cases h
theorem atI_get {α : Type} {xs : List α} {i : Int} {v : α} (h : atI xs i = some v) : ∃ j, seqIndex? i xs.length = some j ∧ xs[j]? = some v ∧ j < xs.length ∧ -(xs.length : Int) ≤ i ∧ i < xs.length := by
  unfold atI at h
  cases e : ixN xs.length i with
  | none => rw [e] at h; cases h
  | some j =>
    rw [e] at h
    obtain ⟨h1, h2, h3, h4⟩ := ixN_seq e
    exact ⟨j, h1, h, h2, h3, h4⟩
/-! ### what may be subscripted -/
def PlainIx (b : Expr) : Prop := ∀ o i, subscripted b false o i = operate [o, i] (getItem o i)
def IxR (X : Cx) (r : R2) : Prop :=
  ∀ (value slice : Expr) (pins : List (Addr × Obj)) (s : Shared) (σ : St) (H : Hp) (x y : V) (v u : Value) (Q : VK), Inv X pins σ H s → RelV x v → RelV y u → r x y H Q →
    subscripted slice false v u = operate [v, u] (getItem v u) → wpAny (model X.prog X.w) X.A (subscriptTail value slice v u) (EP X pins σ Q) X.xe s
def MtR (X : Cx) (id : String) (r : V → List V → Hp → VK → Prop) : Prop :=
  ∀ (pins : List (Addr × Obj)) (s : Shared) (σ : St) (H : Hp) (x : V) (xs : List V) (v : Value) (us : List Value) (Q : VK), Inv X pins σ H s → RelV x v → Vals xs us → r x xs H Q →
    wpAny (model X.prog X.w) X.A (call (.builtin id) (v :: us)) (EP X pins σ Q) X.xe s
section
variable {X : Cx} {a b : Expr} {ta tb : TE} {pos : Pos}
theorem pe_ix {r : R2} (hr : IxR X r) (ha : PE X a ta) (hb : PE X b tb) (hs : PlainIx b) : PE X (.Subscript a b pos) (tOp r ta tb) := by
  with_unfolding_all
    intro pins s σ H Q I h
    exact Subscript_ (binT ha hb I h fun v u s2 x y H2 I2 rx ry q => hr a b pins s2 σ H2 x y v u Q I2 rx ry q (hs _ _))

def rIxL (K : PySem.W.Frag) : R2 := fun x y H Q => ∃ p xs i v, x = .ref p ∧ y = .int i ∧ SqL K H p xs ∧ atI xs i = some v ∧ Q v H
def rIxT (K : PySem.W.Frag) : R2 := fun x y H Q => ∃ p xs i v, x = .ref p ∧ y = .int i ∧ SqT K H p xs ∧ atI xs i = some v ∧ Q v H
theorem ix_list : IxR X (rIxL X.K) := by
  intro value slice pins s σ H x y v u Q I rx ry h hs
  obtain ⟨p, xs, i, z, rfl, rfl, hq, he, q⟩ := h
  cases rx
  obtain ⟨t, rfl⟩ := ry
  obtain ⟨its, r, pl, hz⟩ := I.list hq
  obtain ⟨j, h1, h2, h3, h4, h5⟩ := atI_get he
  obtain ⟨w, ew, rw'⟩ := r.get h2
  have hl := r.length
  have hn := line63
  have fin : EP X pins σ Q w s := ⟨z, H, I, rw', q⟩
  by_cases h0 : 0 ≤ i
  · have hj : i.toNat = j := by
      rw [seqIndex_of h0 h5] at h1
      exact Option.some.inj h1
    exact item_listR pl.isList h0 (by omega) (by rw [hj]; simpa using ew) fin hs
  · have hj : (i + (its.toArray.size : Int)).toNat = j := by
      rw [seqIndex_neg (by omega) h4] at h1
      rw [List.size_toArray, ← hl]
      exact Option.some.inj h1
    exact subscriptTail_builtinR (x := w) pl.isList.typeIs slot_list_getitem.lookup
      (wpAny_getItem_list_neg (Q := fun r s' => r = w ∧ EP X pins σ Q r s') pl.isList (by omega) (by rw [List.size_toArray] <;> omega) (by omega) (by rw [hj]; simpa using ew) ⟨rfl, fin⟩) hs
theorem ix_tup : IxR X (rIxT X.K) := by
  intro value slice pins s σ H x y v u Q I rx ry h hs
  obtain ⟨p, xs, i, z, rfl, rfl, hq, he, q⟩ := h
  cases rx
  obtain ⟨t, rfl⟩ := ry
  obtain ⟨its, r, pl, hz⟩ := I.tuple hq
  obtain ⟨j, h1, h2, h3, h4, h5⟩ := atI_get he
  obtain ⟨w, ew, rw'⟩ := r.get h2
  have hl := r.length
  have hn := line63
  have fin : EP X pins σ Q w s := ⟨z, H, I, rw', q⟩
  exact subscriptTail_builtinR (x := w) pl.typeIs slot_tuple_getitem.lookup
    (getItem_tuple (j := j) (Q := fun r s' => r = w ∧ EP X pins σ Q r s') pl (by omega) (by omega) (by rw [List.size_toArray, ← hl]; exact h1) (by simpa using ew) ⟨rfl, fin⟩) hs
/-! ### xs[i] = v, any sign -/
theorem mapSeq_set (its : List Value) (n j : Nat) (u : Value) : Obj.mapSeq (·.setIfInBounds j u) { cls := .type "list", data := .seq its.toArray n } = { cls := .type "list", data := .seq (its.set j u).toArray n } := by
  simp [Obj.mapSeq]
theorem Inv.lst {pins : List (Addr × Obj)} {σ : St} {H : Hp} {s : Shared} {p : Addr} {xs : List V} (I : Inv X pins σ H s) (h : H p = some (.lst xs)) :
    ∃ (its : List Value) (n : Nat), Vals xs its ∧ s.heap.get? p = some { cls := .type "list", data := .seq its.toArray n } ∧ xs.length ≤ sizeLine := by
  obtain ⟨z, its, n, r, e⟩ := I.hok p _ h
  exact ⟨its, n, r, e, z⟩
theorem Inv.lstUpd {pins : List (Addr × Obj)} {σ : St} {H : Hp} {s : Shared} {p : Addr} {xs ys : List V} {its its' : List Value} {n n' : Nat} {f : Obj → Obj} (I : Inv X pins σ H s) (h : H p = some (.lst xs))
    (ho : s.heap.get? p = some { cls := .type "list", data := .seq its.toArray n }) (hf : f { cls := .type "list", data := .seq its.toArray n } = { cls := .type "list", data := .seq its'.toArray n' }) (r : Vals ys its') (hz : ys.length ≤ sizeLine) (t : Nat) :
    Inv X pins σ (upd H p (.lst ys)) { s with heap := s.heap.update p f, toks := t } := by
  have e : (s.heap.update p f).get? p = some { cls := .type "list", data := .seq its'.toArray n' } := by
    rw [Heap.get?_update_self f ho (by rw [hf] <;> rfl), hf]
  refine I.write (x := p) (e := p) (by rw [h]; trivial) (.inl rfl) (fun b u hb q => (Heap.get?_update_other _ _ (Ne.symm hb)).trans q) ⟨_, e⟩ ?_
  exact ⟨hz, its', n', r, e⟩
def rSetL : V → V → V → Hp → (Hp → Prop) → Prop := fun o i v H Q => ∃ p xs k j, o = .ref p ∧ i = .int k ∧ H p = some (.lst xs) ∧ ixN xs.length k = some j ∧ Q (upd H p (.lst (xs.set j v)))
theorem set_list : PSet X rSetL := by
  intro pins s σ H o i v ov iv u Q I ro ri rv h
  obtain ⟨p, xs, k, j, rfl, rfl, hp, hj, q⟩ := h
  cases ro
  obtain ⟨t, rfl⟩ := ri
  obtain ⟨its, n, r, ho, hz⟩ := I.lst hp
  obtain ⟨h1, h2, h3, h4⟩ := ixN_seq hj
  have hl := r.length
  have hn := line63
  have I' : Inv X pins σ (upd H p (.lst (xs.set j v))) { s with heap := s.heap.update p (Obj.mapSeq (·.setIfInBounds j u)) } :=
    I.lstUpd hp ho (mapSeq_set its n j u) (r.set rv j) (by rw [List.length_set]; exact hz) s.toks
  by_cases h0 : 0 ≤ k
  · have hk : k.toNat = j := by
      rw [seqIndex_of h0 h4] at h1
      exact Option.some.inj h1
    exact PySem.W.ki_setAt ho h0 (by omega) (by rw [List.size_toArray, ← hl]; exact h4) (by rw [hk]; exact ⟨_, I', q⟩)
  · have hk : (k + (its.toArray.size : Int)).toNat = j := by
      rw [seqIndex_neg (by omega) h3] at h1
      rw [List.size_toArray, ← hl]
      exact Option.some.inj h1
    exact PySem.W.ki_setBack ho (by omega) (by rw [List.size_toArray, ← hl]; exact h3) (by omega) (by rw [hk]; exact ⟨_, I', q⟩)

/-! ### slices -/
theorem slice_bounds (lo hi : Option Int) (n : Nat) : (sliceBounds lo hi none n).1 = ((HT.sIx n 0 lo : Nat) : Int) ∧ (sliceBounds lo hi none n).2.1 = ((HT.sIx n n hi : Nat) : Int) ∧ (sliceBounds lo hi none n).2.2 = 1 := by
  refine ⟨?_, ?_, rfl⟩
  · cases lo with
    | none => simp [sliceBounds, HT.sIx]
    | some i =>
      simp only [sliceBounds, HT.sIx, Option.getD_none, show (1 : Int) > 0 by decide, if_true]
      by_cases h : i < 0
      · simp only [h, if_true] <;> omega
      · simp only [h, if_false] <;> omega
  · cases hi with
    | none => simp [sliceBounds, HT.sIx]
    | some i =>
      simp only [sliceBounds, HT.sIx, Option.getD_none, show (1 : Int) > 0 by decide, if_true]
      by_cases h : i < 0
      · simp only [h, if_true] <;> omega
      · simp only [h, if_false] <;> omega
theorem slicePick_cut (its : List Value) (lo hi : Option Int) : slicePick its.toArray lo hi none = ((its.drop (HT.sIx its.length 0 lo)).take (HT.sIx its.length its.length hi - HT.sIx its.length 0 lo)).toArray := by
  obtain ⟨h1, h2, h3⟩ := slice_bounds lo hi its.toArray.size
  unfold slicePick
  rw [h1, h2, h3]
  simp only [sliceRange_one, pick_run, List.size_toArray] <;> rfl
def rSlL (K : PySem.W.Frag) : V → Option Int → Option Int → Hp → VK → Prop := fun x lo hi H Q => ∃ a xs, x = .ref a ∧ SqL K H a xs ∧ ∀ p, H p = none → Q (.ref p) (upd H p (.lst (cutV xs lo hi)))
theorem sl_list : SlR X (rSlL X.K) := by
  intro pins s σ H x v vl vu lo hi sl Q I rx hs pl pu h
  obtain ⟨a, xs, rfl, hx, q⟩ := h
  cases rx
  obtain ⟨its, r, ht, hz⟩ := I.list hx
  have hlen := r.length
  refine ⟨"list", _, slot_list_getitem.lookup, ht.isList.typeIs, ?_⟩
  refine wpAny_getItem_list_slice ht.isList hs pl pu .none (by simp) ?_ (by rw [List.size_toArray] <;> omega)
  rw [slicePick_cut, ← hlen]
  refine ⟨.ref s.heap.objs.size, _, I.laid (t' := s.toks) (o := .lst (cutV xs lo hi)) (fun b ob q => Heap.get?_push_of_some _ q) (Nat.le_refl _) ?_, rfl, q _ (I.hok.fresh (Nat.le_refl _))⟩
  exact ⟨Nat.le_trans (cutV_length xs lo hi) hz, _, 0, (r.drop (HT.sIx xs.length 0 lo)).take (HT.sIx xs.length xs.length hi - HT.sIx xs.length 0 lo), Heap.get?_push_size _ rfl⟩

/-! ### in, not in: flat items -/
def flatV : V → Bool
  | .non => true
  | .bl _ => true
  | .int _ => true
  | .str _ => true
  | _ => false
def eqV : V → V → Bool
  | .non, .non => true
  | .bl a, .bl b => a == b
  | .bl a, .int b => (if a then 1 else 0) == b
  | .int a, .bl b => a == (if b then 1 else 0)
  | .int a, .int b => a == b
  | .str a, .str b => a == b
  | _, _ => false
theorem eqAt_V {A : Around} {s : Shared} {y x : V} {u v : Value} (ry : RelV y u) (rx : RelV x v) (fy : flatV y = true) (fx : flatV x = true) : SeqAt.EqAt A s u v (eqV y x) := by
  cases y with
  | non =>
    cases ry
    cases x with
    | non => cases rx; exact SeqAt.EqAt.same _
    | bl b => cases rx; exact SeqAt.EqAt.none_bool b
    | int b => obtain ⟨t, rfl⟩ := rx; exact SeqAt.EqAt.none_int b t
    | str b => obtain ⟨t, rfl⟩ := rx; exact SeqAt.EqAt.none_str b t
    | _ => exact absurd (show false = true from fx) Bool.false_ne_true
  | bl a =>
    cases ry
    cases x with
    | non => cases rx; exact SeqAt.EqAt.bool_none a
    | bl b => cases rx; exact SeqAt.EqAt.bool_bool a b
    | int b => obtain ⟨t, rfl⟩ := rx; exact SeqAt.EqAt.bool_int a b t
    | str b => obtain ⟨t, rfl⟩ := rx; exact SeqAt.EqAt.bool_str a b t
    | _ => exact absurd (show false = true from fx) Bool.false_ne_true
  | int a =>
    obtain ⟨t', rfl⟩ := ry
    cases x with
    | non => cases rx; exact SeqAt.EqAt.int_none a t'
    | bl b => cases rx; exact SeqAt.EqAt.int_bool a t' b
    | int b => obtain ⟨t, rfl⟩ := rx; exact SeqAt.EqAt.int_int a t' b t
    | str b => obtain ⟨t, rfl⟩ := rx; exact SeqAt.EqAt.int_str a t' b t
    | _ => exact absurd (show false = true from fx) Bool.false_ne_true
  | str a =>
    obtain ⟨t', rfl⟩ := ry
    cases x with
    | non => cases rx; exact SeqAt.EqAt.str_none a t'
    | bl b => cases rx; exact SeqAt.EqAt.str_bool a t' b
    | int b => obtain ⟨t, rfl⟩ := rx; exact SeqAt.EqAt.str_int a t' b t
    | str b => obtain ⟨t, rfl⟩ := rx; exact SeqAt.EqAt.str_str a t' b t
    | _ => exact absurd (show false = true from fx) Bool.false_ne_true
  | _ => exact absurd (show false = true from fy) Bool.false_ne_true
def eqU (x : V) (u : Value) : Bool := match u with
  | .none => eqV .non x
  | .bool b => eqV (.bl b) x
  | .int i _ => eqV (.int i) x
  | .str z _ => eqV (.str z) x
  | _ => false
theorem eqU_of {x y : V} {u : Value} (r : RelV y u) (f : flatV y = true) : eqU x u = eqV y x := by
  cases y with
  | non => cases r; rfl
  | bl b => cases r; rfl
  | int i => obtain ⟨t, rfl⟩ := r; rfl
  | str z => obtain ⟨t, rfl⟩ := r; rfl
  | _ => exact absurd (show false = true from f) Bool.false_ne_true
theorem any_eqU {x : V} : ∀ {xs : List V} {us : List Value}, Vals xs us → xs.all flatV = true → us.any (eqU x) = xs.any fun y => eqV y x
  | _, _, .nil, _ => rfl
  | y :: xs, u :: us, .cons r t, f => by
    rw [List.all_cons, Bool.and_eq_true] at f
    rw [List.any_cons, List.any_cons, eqU_of r f.1, any_eqU t f.2]
theorem mem_eqAt {A : Around} {s : Shared} {x : V} {v : Value} (rx : RelV x v) (fx : flatV x = true) : ∀ {xs : List V} {us : List Value}, Vals xs us → xs.all flatV = true → ∀ u ∈ us, SeqAt.EqAt A s u v (eqU x u)
  | _, _, .nil, _ => fun u hu => by cases hu
  | y :: xs, u :: us, .cons r t, f => fun u' hu => by
    rw [List.all_cons, Bool.and_eq_true] at f
    rcases List.mem_cons.mp hu with rfl | hu
    · rw [eqU_of r f.1]; exact eqAt_V r rx f.1 fx
    · exact mem_eqAt rx fx t f.2 u' hu
def inV (x : V) (xs : List V) : Bool := xs.any fun y => eqV y x
def rIn (K : PySem.W.Frag) (neg : Bool) : R2 := fun x y H Q => ∃ p xs, y = .ref p ∧ (SqL K H p xs ∨ SqT K H p xs) ∧ flatV x = true ∧ xs.all flatV = true ∧ Q (.bl (if neg then !inV x xs else inV x xs)) H
theorem op_in_seq : OpR X (compareOp .In) (rIn X.K false) := by
  intro pins s σ H x y v u Q I rx ry h
  obtain ⟨p, xs, rfl, hq, fx, fs, q⟩ := h
  cases ry
  rcases hq with hq | hq
  · obtain ⟨its, r, pl, hz⟩ := I.list hq
    refine SeqAt.in_listAt (eqU x) pl.isList (fun w hw => mem_eqAt rx fx r fs w (by simpa using hw)) ⟨.bl _, H, I, rfl, ?_⟩
    rw [show its.toArray.any (eqU x) = its.any (eqU x) by simp, any_eqU r fs]
    exact q
  · obtain ⟨its, r, pl, hz⟩ := I.tuple hq
    refine SeqAt.in_tupleAt (eqU x) pl (fun w hw => mem_eqAt rx fx r fs w (by simpa using hw)) ⟨.bl _, H, I, rfl, ?_⟩
    rw [show its.toArray.any (eqU x) = its.any (eqU x) by simp, any_eqU r fs]
    exact q
/-! ### len, list(x), tuple(x) of any list or tuple that is read -/
theorem call_len_seq : CallR X (.builtin "len") (fun xs H Q => ∃ p ys, xs = [.ref p] ∧ (SqL X.K H p ys ∨ SqT X.K H p ys) ∧ Q (.int ys.length) H) := by
  intro pins s σ H xs us Q I r h
  obtain ⟨p, ys, rfl, hq, q⟩ := h
  obtain ⟨u, rfl, rx⟩ := vals1 r
  cases rx
  have hn := line63
  rcases hq with hq | hq
  · obtain ⟨its, r', pl, hz⟩ := I.list hq
    have hlen := r'.length
    exact Calls.call_len_list pl.isList (by simp only [List.size_toArray] <;> omega) ⟨.int ys.length, H, I.tok _, ⟨s.toks + 1, by rw [List.size_toArray, hlen]⟩, q⟩
  · obtain ⟨its, r', pl, hz⟩ := I.tuple hq
    have hlen := r'.length
    exact len_tuple pl (by simp only [List.size_toArray] <;> omega) ⟨.int ys.length, H, I.tok _, ⟨s.toks + 1, by rw [List.size_toArray, hlen]⟩, q⟩
theorem call_list_of : CallR X (.type "list") (fun xs H Q => ∃ p ys, xs = [.ref p] ∧ (SqL X.K H p ys ∨ SqT X.K H p ys) ∧ ∀ l, H l = none → Q (.ref l) (upd H l (.lst ys))) := by
  intro pins s σ H xs us Q I r h
  obtain ⟨p, ys, rfl, hq, q⟩ := h
  obtain ⟨u, rfl, rx⟩ := vals1 r
  cases rx
  have fin : ∀ (its : List Value), Vals ys its → ys.length ≤ sizeLine → ∀ (h' : Heap) (c' : Nat), (∀ b o', s.heap.get? b = some o' → h'.get? b = some o') →
      h'.get? s.heap.objs.size = some { cls := .type "list", dict := none, data := .seq its.toArray c', slots := #[] } → EP X pins σ Q (.ref s.heap.objs.size) { s with heap := h' } := fun its r' hz h' c' kp e =>
    ⟨.ref s.heap.objs.size, _, I.laid (t' := s.toks) kp (Nat.le_refl _) (show ObjOk X.prog X.w _ h' _ (.lst ys) from ⟨hz, its, c', r', e⟩), rfl, q _ (I.hok.fresh (Nat.le_refl _))⟩
  rcases hq with hq | hq
  · obtain ⟨its, r', pl, hz⟩ := I.list hq
    have hlen := r'.length
    obtain ⟨o, ho, hc, n, hd⟩ := pl.isList
    exact call_list_seq p (.inl rfl) ho hc hd (fun h' c' kp e => fin its r' hz h' c' kp e) (by simp only [List.size_toArray] <;> omega)
  · obtain ⟨its, r', pl, hz⟩ := I.tuple hq
    have hlen := r'.length
    obtain ⟨o, ho, hc, n, hd⟩ := pl
    exact call_list_seq p (.inr rfl) ho hc hd (fun h' c' kp e => fin its r' hz h' c' kp e) (by simp only [List.size_toArray] <;> omega)
/-! ### the call of a builtin's method: o.m(..) -/
def tyV (K : PySem.W.Frag) (T : String) (x : V) (H : Hp) : Prop := match x with
  | .str _ => T = "str"
  | .int _ => T = "int"
  | .ref p => (T = "list" ∧ ∃ xs, SqL K H p xs) ∨ (T = "tuple" ∧ ∃ o, K.lookup p = some o ∧ o.cls = .type "tuple" ∧ o.dict = none) ∨
      (T = "dict" ∧ ((∃ kvs, H p = some (.dK kvs)) ∨ ∃ kvs, H p = some (.dT kvs))) ∨ (T = "set" ∧ ∃ S n, H p = some (.set S n))
  | _ => False
theorem tyV_is {pins : List (Addr × Obj)} {σ : St} {H : Hp} {s : Shared} {T : String} {x : V} {v : Value} (I : Inv X pins σ H s) (r : RelV x v) (ty : tyV X.K T x H) :
    s.TypeIs v T ∧ ∀ a, v = .ref a → ∃ ob, s.heap.get? a = some ob ∧ ob.dict = none := by
  cases x with
  | str z =>
    obtain ⟨t, rfl⟩ := r
    cases (show T = "str" from ty)
    exact ⟨typeIs_str s z t, fun _ e => nomatch e⟩
  | int i =>
    obtain ⟨t, rfl⟩ := r
    cases (show T = "int" from ty)
    exact ⟨typeIs_int s i t, fun _ e => nomatch e⟩
  | ref p =>
    cases r
    rcases ty with ⟨rfl, xs, hq⟩ | ⟨rfl, o, hk, hc, hd⟩ | ⟨rfl, hk⟩ | ⟨rfl, S, n, hk⟩
    · obtain ⟨its, _, pl, _⟩ := I.list hq
      refine ⟨pl.isList.typeIs, fun a e => ?_⟩
      cases e
      obtain ⟨o, n, e, c, hd, _⟩ := pl
      exact ⟨o, e, hd⟩
    · refine ⟨⟨o, I.kIn p o hk, hc⟩, fun a e => ?_⟩
      cases e
      exact ⟨o, I.kIn _ o hk, hd⟩
    · have z : ∃ o, s.heap.get? p = some o ∧ o.ExactDict := by
        rcases hk with ⟨kvs, hk⟩ | ⟨kvs, hk⟩
        · obtain ⟨_, _, _, _, o, _, _, e, ex, _⟩ := I.hok p _ hk
          exact ⟨o, e, ex⟩
        · obtain ⟨_, _, _, _, o, _, _, e, ex, _⟩ := I.hok p _ hk
          exact ⟨o, e, ex⟩
      obtain ⟨o, e, ex⟩ := z
      refine ⟨⟨o, e, ex.1⟩, fun a e2 => ?_⟩
      cases e2
      exact ⟨o, e, ex.2.1⟩
    · obtain ⟨o, _, _, _, e, ex, _⟩ := I.hok p _ hk
      refine ⟨⟨o, e, ex.1⟩, fun a e2 => ?_⟩
      cases e2
      exact ⟨o, e, ex.2.1⟩
  | _ => exact False.elim ty
def tBM0 (K : PySem.W.Frag) (T : String) (r : V → List V → Hp → VK → Prop) (to : TE) : TE := fun σ H Q => to σ H fun x H1 => tyV K T x H1 ∧ r x [] H1 Q
def tBM (K : PySem.W.Frag) (T : String) (r : V → List V → Hp → VK → Prop) (to : TE) (t : TA) : TE := fun σ H Q => to σ H fun x H1 => tyV K T x H1 ∧ t σ H1 fun xs H2 => r x xs H2 Q
variable {o e : Expr} {es : List Expr} {to : TE} {t : TA} {name : Str} {apos cpos : Pos} {T id : String} {r : V → List V → Hp → VK → Prop}
theorem pe_bm0 (pa : PlainAttrs T) (slot : Slot T name id) (hty : typeOf (.builtin id) = pure (.type "method_descriptor")) (hm : MtR X id r) (ho : PE X o to)
    (hbase : attributeBase o name X.env (eval o X.env) = eval o X.env := by rfl) (hline : (apos.endLine == cpos.line) = true := by rfl) : PE X (.Call (.Attribute o name apos) [] [] cpos) (tBM0 X.K T r to) := by
  with_unfolding_all
    intro pins s σ H Q I h
    refine wpAny_Call_method0_late hbase hline (thn (ho pins s σ H _ I h) fun v s1 ⟨x, H1, I1, r1, ty, q1⟩ => ?_)
    obtain ⟨h1, h2⟩ := tyV_is I1 r1 ty
    exact ⟨T, id, pa, slot, hty, h1, h2, Calls.callWith_builtin rfl (PySem.evalArgs_none (hm pins s1 σ H1 x [] v [] Q I1 r1 .nil q1))⟩
theorem pe_bm (pa : PlainAttrs T) (slot : Slot T name id) (hty : typeOf (.builtin id) = pure (.type "method_descriptor")) (hm : MtR X id r) (ho : PE X o to) (ha : PA X (e :: es) t)
    (hbase : attributeBase o name X.env (eval o X.env) = eval o X.env := by rfl)
    (hfew : ((backTo cpos (starEach (e :: es) X.env)).all (fun x => !x.1) && (backToKw cpos (keywordEach [] X.env)).all (fun x => x.1.isSome)
      && decide ((e :: es).length + ([] : List Keyword).length + (if ([] : List Keyword).isEmpty then 0 else 1) < 30)) = true := by rfl)
    (hline : (apos.endLine == cpos.line) = true := by rfl) (hs : starEach (e :: es) X.env = (false, eval e X.env) :: starEach es X.env := by rfl) (hplain : (backTo cpos (starEach es X.env)).any (·.1) = false := by rfl) :
    PE X (.Call (.Attribute o name apos) (e :: es) [] cpos) (tBM X.K T r to t) := by
  with_unfolding_all
    intro pins s σ H Q I h
    refine wpAny_Call_method_late hbase hfew hline rfl (thn (ho pins s σ H _ I h) fun v s1 ⟨x, H1, I1, r1, ty, q1⟩ => ?_)
    obtain ⟨h1, h2⟩ := tyV_is I1 r1 ty
    refine ⟨T, id, pa, slot, hty, h1, h2, ?_⟩
    have hA := ha cpos pins s1 σ H1 _ I1 q1
    rw [hs] at hA ⊢
    refine Calls.callWith_builtin (by show (false || (backTo cpos (starEach es X.env)).any (·.1)) = false; rw [hplain] <;> rfl) (Calls.evalArgs_plain ?_)
    exact thn hA fun us s2 ⟨vs, H2, I2, r2, q2⟩ => hm pins s2 σ H2 x vs v us Q I2 r1 r2 q2
/- xs.append(e), list.index on a module's tuple .. are MtR facts of 06m -/
end
end L2

namespace L2
open PySem PySem.Spec PyProof.Rows

def MtM (X : Cx) (id : String) (r : V → List V → Hp → VK → Prop) : Prop :=
  ∀ (pins : List (Addr × Obj)) (s : Shared) (σ : St) (H : Hp) (x : V) (xs : List V) (v : Value) (us : List Value) (Q : VK), Inv X pins σ H s → RelV x v → Vals xs us → r x xs H Q →
    wpAny (model X.prog X.w) X.A (call (.builtin id) (v :: us)) (EP X pins σ Q) X.xe s

/-! ### lists of values -/
theorem Vals.one : ∀ {x : V} {us : List Value}, Vals [x] us → ∃ u, us = [u] ∧ RelV x u
  | _, _, .cons r .nil => ⟨_, rfl, r⟩
theorem Vals.zero : ∀ {us : List Value}, Vals [] us → us = []
  | _, .nil => rfl
section
variable {X : Cx} {pins : List (Addr × Obj)} {σ : St} {H : Hp} {s : Shared} {l b : Addr} {xs ys zs : List V}

/-! ### the two steps: a tracked list is rewritten, a new list is laid -/
theorem Inv.lset {its its' : List Value} {n : Nat} {f : Array Value → Array Value} {t' : Nat} (I : Inv X pins σ H s) (hH : H l = some (.lst xs))
    (e : s.heap.get? l = some { cls := .type "list", data := .seq its.toArray n }) (hf : f its.toArray = its'.toArray) (hv : Vals ys its') (hz : ys.length ≤ sizeLine) :
    Inv X pins σ (upd H l (.lst ys)) { s with heap := s.heap.update l (Obj.mapSeq f), toks := t' } := by
  have q := PySem.IsL.update e f
  rw [hf] at q
  refine I.write (x := l) (e := l) (by rw [hH]; exact trivial) (.inl rfl) (fun b' u hb hu => (Heap.get?_update_other s.heap (Obj.mapSeq f) (Ne.symm hb)).trans hu) ⟨_, q⟩ ?_
  exact ⟨hz, its', _, hv, q⟩
theorem Inv.lnew {its : List Value} {t' : Nat} (I : Inv X pins σ H s) (hv : Vals ys its) (hz : ys.length ≤ sizeLine) :
    Inv X pins σ (upd H s.heap.objs.size (.lst ys)) { s with heap := s.heap.push { cls := .type "list", data := .seq its.toArray }, toks := t' } :=
  I.laid (fun _ _ q => Heap.get?_push_of_some _ q) (Nat.le_refl _) ⟨hz, its, 0, hv, Heap.get?_push_size _ rfl⟩
theorem Inv.fresh (I : Inv X pins σ H s) : H s.heap.objs.size = none := I.hok.fresh (Nat.le_refl _)
theorem Inv.lstM (I : Inv X pins σ H s) (hH : H l = some (.lst xs)) : xs.length ≤ sizeLine ∧ ∃ (its : List Value) (n : Nat), Vals xs its ∧ xs.length = its.length ∧ s.heap.get? l = some { cls := .type "list", data := .seq its.toArray n } := by
  obtain ⟨z, its, n, r, e⟩ := I.hok l _ hH
  exact ⟨z, its, n, r, r.length, e⟩

end

section
variable {X : Cx}

/-! ### methods -/
def rAppend : V → List V → Hp → VK → Prop := fun x vs H Q => ∃ l xs y, x = .ref l ∧ vs = [y] ∧ H l = some (.lst xs) ∧ xs.length < sizeLine ∧ Q .non (upd H l (.lst (xs ++ [y])))
theorem mt_append : MtM X "list.append" rAppend := by
  intro pins s σ H x vs v us Q I rx rv h
  obtain ⟨l, xs, y, rfl, rfl, hH, hz, q⟩ := h
  cases rx
  obtain ⟨u, rfl, ru⟩ := rv.one
  obtain ⟨z, its, n, r, hl, e⟩ := I.lstM hH
  refine call_meets F.slot_list_append ⟨_, e, rfl⟩ F.entry_list_append (F.args_list_append_2 _ _) (PySem.list_append l its.toArray n u (by rw [List.size_toArray]; omega)) ⟨e, ?_⟩
  refine ⟨.non, _, I.lset (its' := its ++ [u]) hH e (by simp) (r.append (.cons ru .nil)) ?_, rfl, q⟩
  rw [List.length_append, List.length_singleton]
  omega

/-! ### list + list, list += list, list * int -/
def rCat : R2 := fun x y H Q => ∃ l b xs zs, x = .ref l ∧ y = .ref b ∧ H l = some (.lst xs) ∧ H b = some (.lst zs) ∧ xs.length + zs.length ≤ sizeLine ∧ ∀ p, H p = none → Q (.ref p) (upd H p (.lst (xs ++ zs)))
theorem op_cat : OpR X (binaryOp .Add) rCat := by
  intro pins s σ H x y v u Q I rx ry h
  obtain ⟨l, b, xs, zs, rfl, rfl, hH, hB, hz, q⟩ := h
  cases rx
  cases ry
  obtain ⟨z, its, n, r, hl, e⟩ := I.lstM hH
  obtain ⟨z2, its2, n2, r2, hl2, e2⟩ := I.lstM hB
  refine PySem.P.add_list e e2 ?_ (by rw [List.size_toArray, List.size_toArray]; omega)
  have ea : its.toArray ++ its2.toArray = (its ++ its2).toArray := by simp
  rw [ea]
  exact ⟨.ref _, _, I.lnew (t' := s.toks) (r.append r2) (by rw [List.length_append]; omega), rfl, q _ I.fresh⟩
/-! ### del xs[i] -/
end

/-! ### xs[a:b] = ys -/
section
variable {prog : Program} {w : World} {A : Around} {E : Value → Shared → Prop} {s : Shared}
set_option maxRecDepth 100000 in
end

section
variable {X : Cx}
end
end L2

namespace Att
open PySem PySem.W PySem.Calls PyProof.Rows

/-! ### the script -/
theorem ints_of_wellAll {P : Params} {h : Heap} : ∀ (ns : List Int) (vs : List Value), WellAll P h vs (ns.map WData.int) → IntsAre vs ns := by
  intro ns
  induction ns with
  | nil =>
    intro vs w
    rw [List.map_nil] at w
    cases w
    exact .nil
  | cons n ns ih =>
    intro vs w
    rw [List.map_cons] at w
    cases w with
    | cons a b =>
      cases a
      exact .cons _ _ (ih _ b)

theorem script_of {l : OpenLaw} {n : Nat} (hn : l.most = some n) {P : Params} {h : Heap} {args : List WData} {vals : List Value}
    (hpre : l.row.toRowW.claim.pre args = true) (hwl : WellAll P h vals args) :
    ∃ a vs ns, vals = [Value.ref a] ∧ args = [WData.list (ns.map WData.int)] ∧ h.get? a = some { cls := .type "list", data := .seq vs.toArray } ∧ IntsAre vs ns ∧ ns.length ≤ n := by
  have hsh : WShape.hasAll [] args [.list .int] = true := (pre_splitW hpre).1
  have hc : l.pre.holds [] { args := args } = true := (pre_splitW hpre).2
  obtain ⟨d, r, rfl, h1, h2⟩ := hasAllW_cons hsh
  obtain rfl := hasAllW_nil h2
  obtain ⟨xs, rfl, h3⟩ := hasW_list h1
  obtain ⟨ns, rfl⟩ := items_int h3
  have hlen : ns.length ≤ n := by
    unfold OpenLaw.pre at hc
    have h4 : (WTm.not (.lt (.lit (.int (n : Int))) (.len (.arg 0)))).holds [] { args := [.list (ns.map .int)] } = true := by
      have h4 := (holds_andW hc).1
      rw [hn] at h4
      exact h4
    have h5 := condW_of h4 (w_not (w_lt w_lit (w_len_list (w_arg rfl))))
    rw [List.length_map] at h5
    refine Nat.le_of_not_lt fun q => ?_
    have q' : (n : Int) < ((ns.length : Nat) : Int) := by omega
    first
      | (rw [decide_eq_true q'] at h5; exact absurd h5 (by decide))
      | (simp at h5; omega)
  cases hwl with
  | cons w1 w2 =>
    cases w2
    cases w1 with
    | list ho hall => exact ⟨_, _, ns, rfl, rfl, ho, ints_of_wellAll ns _ hall, hlen⟩

theorem post_true (l : OpenLaw) (args : List WData) : l.row.toRowW.claim.post args (.bool true) args = true :=
  postW_of (r := l.row.toRowW) (X := (true == true))
    (show WShape.has [] (.bool true) .bool = true by first | rfl | decide | simp [WShape.has, WShape.arms, WShape.armsAll])
    (show (WTm.eq .res (.lit (.bool true))).value [] { args := args, res := some (.bool true), after := args } = some (.bool (true == true)) from w_eq_bool (w_res rfl) w_lit) rfl

/-! ### the attachment: holds_open's last premise (the goal 'hc' behind k_head) from a wpAny of the law's body -/
theorem attach_call {l : OpenLaw} {n : Nat} {q : Program} {loose : List Str} {XP : (Str → Option Value) → Heap → Prop} {YP : World → Heap → Prop} {d : DefRec}
    (hn : l.most = some n) (hdf : d.params.defaults = [])
    (call : ∀ (w : World) (s₀ s₁ : Shared) (mg mb : Str → Option Value) (fa : Addr) (o : Obj) (pm cd doc : Value) (a : Addr) (vs : List Value) (ns : List Int),
      Ground q loose [] XP w s₀ mg mb s₁.heap → YP w s₁.heap →
      s₁.heap.get? fa = some o → o.data = .func (docDef d.name d.params d.body d.scope pm cd doc) → s₁.heap.CodeRec cd d.name → mg d.name = some (.ref fa) →
      s₁.heap.get? a = some { cls := .type "list", data := .seq vs.toArray } → IntsAre vs ns → ns.length ≤ n → s₁.gens = #[] →
      codeAny (model l.prog w) callerA (.call (.ref fa) ⟨[.ref a], []⟩) (fun r s' => r = .ok (.ret (.bool true)) ∧ OldK s₁.heap s'.heap ∧ s'.os = s₁.os ∧ AllBare s'.gens) s₁) :
    WalkO q loose XP YP l.row.toRowW d [] (fun f vs => PySem.call f vs) := by
  intro w s₀ s₁ mg mb G Y fa o pm cd doc dV kV ho hd hcd hD hmg hg args vals as hpre hlay hrd hwl hlo
  obtain rfl : dV = .none := Dflts.none hD hdf
  obtain rfl : kV = .none := Dflts.noKw hD
  obtain ⟨a, vs, ns, rfl, rfl, hobj, hints, hlen⟩ := script_of hn hpre hwl
  refine enter_call (codeAny_mono (call w s₀ s₁ mg mb fa o pm cd doc a vs ns G Y ho (fd_plain hd) hcd hmg hobj hints hlen hg) fun r s' hq => ?_)
  obtain ⟨rfl, h2, h3, h4⟩ := hq
  exact ⟨.inl ⟨.bool true, .bool true, [], rfl, fun _ => rfl, .bool true, post_true l _, fun _ => ⟨List.Pairwise.nil, fun _ hm => (nomatch hm)⟩⟩, h2, h3, h4⟩

/-! ### rules over ANY heap (no ledger) from facts about the written part K: the library's own take a ledger (News) for what they write -/
section
variable {prog : Program} {w : World} {A : Around} {E : Value → Shared → Prop} {s : Shared} {K : Frag}

/-! the whole heap as the ledger: makes every rule that writes through a ledger a rule over any heap -/
def ledger (h : Heap) (L d : Addr) : List (Addr × Obj) := (List.range h.objs.size).filterMap fun a => if a = L ∨ a = d then none else (h.get? a).map fun o => (a, o)
end
end Att

namespace L2
open PySem PySem.Spec PyProof.Rows

theorem vals_ints : ∀ {vs : List Value} {ns : List Int}, IntsAre vs ns → Vals (ns.map V.int) vs
  | _, _, .nil => .nil
  | _, _, .cons n t h => .cons ⟨t, rfl⟩ (vals_ints h)

end L2

namespace L2
open PySem PySem.Spec PyProof.Rows

abbrev KOf {K : PySem.W.Frag} {h : Heap} (_ : K.In h) : PySem.W.Frag := K

end L2

/- THE LAST THEOREM (shape; LID, My.* are yours):
   My.Adr: a structure of the addresses that your layer names (classes, functions); My.Txt K t: a structure (Prop) of the equations over K;
   My.txt_mk : {K} {implicit addresses ..} (e1 : nsIn K mainGlobals "law" = some (some (.ref f))) (e2 : K.lookup f = some ⟨oc, od, .func (fnOf "law" "law" params body scope dV kV doc pm an cdv ct), sl⟩) (e3 : codeIn K cdv "law" = true) .. : ∃ t, My.Txt K t

set_option maxRecDepth 100000 in
set_option maxHeartbeats 0 in
theorem PySem.Challenge.cw_LID_holds : PySem.Challenge.rw_LID.Holds := by
  w_on; o_law; k_head; (case hw => w_witness2)
  k_fill
  refine L2.walk_of (l := PySem.Challenge.rw_LID) (n := 63) (k := 40) (x := "script") (CX := fun w => ..) (sp := fun _ => My.sp_law) rfl (by decide) rfl ⟨rfl, by decide, by decide⟩ (fun w h Y => PySem.W.kIn_of Y) ?F ?S ?C
  case F =>
    intro w mg fa h KX G hmg
    have T : ∃ t, My.Txt (L2.KOf KX) t := by
      dsimp only [L2.KOf]                          -- K must stand as «<heap const> w.params» for k_is
      refine' My.txt_mk ?e1 ?e2 ?e3 ..
      (case e1 => PySem.W.k_is)                    -- in the order: a name -> its address -> its object -> its parts
      (case e2 => PySem.W.k_is)
      ..
    obtain ⟨t, T⟩ := T
    have e0 := hmg.symm.trans (PySem.W.mg_of KX G T.law)
    cases e0                                       -- fa is the law's own address
    exact ⟨_, fun s u => .of_eq rfl, fun base kb nb => My.law_fn T kb nb⟩     -- if «.of_eq rfl» comes too early: refine' ⟨_, ?b, fun base kb nb => My.law_fn T kb nb⟩; exact fun s u => .of_eq rfl
  case S => exact fun w H a ns hl hO hS => ..
  case C => exact ..
(the tactic k_is has no namespace: write k_is) -/

/-! SHORT WORDS over the layer: a def of the text, its body, what a loop and a test want. -/
namespace L2
open PySem PySem.Spec PyProof.Rows

/-! ### the text by places -/
def inClass (s : Stmt) (j : Nat) : Stmt := match s with
  | .ClassDef _ _ _ body _ _ _ _ _ _ _ => body.getD j (.Pass ⟨0, 0, 0, 0⟩)
  | _ => .Pass ⟨0, 0, 0, 0⟩
def defArgs (s : Stmt) : Arguments := match s with
  | .FunctionDef _ a _ _ _ _ _ _ _ _ => a
  | _ => { posonlyargs := [], args := [], vararg := none, kwonlyargs := [], kw_defaults := [], kwarg := none, defaults := [] }
def defBody (s : Stmt) : List Stmt := match s with
  | .FunctionDef _ _ b _ _ _ _ _ _ _ => b
  | _ => []
def defScope (s : Stmt) : Scope := match s with
  | .FunctionDef _ _ _ _ _ _ sc _ _ _ => sc
  | _ => { kind := .function, names := [], isGenerator := false, isCoroutine := false }

/-! ### no exception leaves a def -/
abbrev CX0 : CXT := fun _ _ _ _ _ _ => False
abbrev E0 : XK := fun _ _ _ => False
theorem pass0 {X : Cx} : Passes CX0 X E0 := fun _ _ _ _ _ _ _ h => h.elim

/-! ### a def (or method) of the text as it stands behind the top -/
structure Fun (K : PySem.W.Frag) (x qual : Str) (st : Stmt) (f : Addr) (fd : FuncData) : Prop where
  ex : ∃ (oc : Value) (od : Option Addr) (kV doc pm : Value) (an : Option Addr) (cdv ct : Value) (osl : Array (Option Value)),
    fd = PySem.W.fnOf x qual (defArgs st) (defBody st) (defScope st) .none kV doc pm an cdv ct ∧ K.lookup f = some ⟨oc, od, .func fd, osl⟩ ∧ PySem.W.codeIn K cdv qual = true
  kp : PySem.W.keepIn K (.ref f) = true
section
variable {P : Program} {w : World} {K : PySem.W.Frag} {mg : Str → Option Value} {base : Heap}
theorem Fun.ok {x qual : Str} {st : Stmt} {f : Addr} {fd : FuncData} {N ps : List Str} {k : Nat} {sp : Sp} (F : Fun K x qual st f fd) (S : FnScope N ps (defScope st)) (len : ∀ vs H Q E, sp vs H Q E → vs.length = ps.length)
    (hbody : ∀ (cdv : Value) (A : Around) (outer : List Env) (s : Shared) (H : Hp) (vs : List V) (Q : VK) (E : XK), Room k (A.deeper (envOfC qual (defScope st) s.heap.objs.size f cdv)) → sp vs H Q E →
      ∃ t, PSs (cxOf CX0 P w K mg base N qual (defScope st) f cdv A outer s H E).nox (defBody st) t ∧ t { nx := fun _ H' => Q .non H', rt := Q } (start N vs) H) : FnOk P w K mg base CX0 (k + 1) f fd ps sp := by
  obtain ⟨oc, od, kV, doc, pm, an, cdv, ct, osl, rfl, lk, hcd⟩ := F.ex
  refine fn_of lk hcd S len fun A outer s H vs Q E hr hsp => ?_
  obtain ⟨t, h, q⟩ := hbody cdv A outer s H vs Q E hr hsp
  exact ⟨t, h.nox, q⟩
theorem Fun.binds {x qual : Str} {st : Stmt} {f : Addr} {fd : FuncData} {ps : List Str} (F : Fun K x qual st f fd)
    (h : ∀ (kV doc pm : Value) (an : Option Addr) (cdv ct : Value) (us : List Value), us.length = ps.length → bindArgs (PySem.W.fnOf x qual (defArgs st) (defBody st) (defScope st) .none kV doc pm an cdv ct) ⟨us, []⟩ = pure (ps.zip us)) : Binds K fd ps [] := by
  obtain ⟨oc, od, kV, doc, pm, an, cdv, ct, osl, rfl, lk, hcd⟩ := F.ex
  exact .all (h kV doc pm an cdv ct)
theorem fun_mk {x qual : Str} {st : Stmt} {f : Addr} {oc : Value} {od an : Option Addr} {osl : Array (Option Value)} {kV doc pm cdv ct : Value} (l : K.lookup f = some ⟨oc, od, .func (PySem.W.fnOf x qual (defArgs st) (defBody st) (defScope st) .none kV doc pm an cdv ct), osl⟩)
    (c : PySem.W.codeIn K cdv qual = true) (k : PySem.W.keepIn K (.ref f) = true) : Fun K x qual st f (PySem.W.fnOf x qual (defArgs st) (defBody st) (defScope st) .none kV doc pm an cdv ct) := ⟨⟨oc, od, kV, doc, pm, an, cdv, ct, osl, rfl, l, c⟩, k⟩
end
theorem small1000 {n : Nat} (h : n ≤ 1000) : n < sizeLine := Nat.lt_of_le_of_lt h (by decide)

/-! ### expressions in short: the name that stands in the i-th slot -/
section
variable {X : Cx}
theorem pv (i : Nat) {x : Str} {pos : Pos} (hN : X.N[i]? = some x := by rfl) (hv : Vis X.env.scope x := by first | exact Or.inl rfl | exact Or.inr (Or.inl rfl) | exact Or.inr (Or.inr rfl)) (hd : (x == ("__debug__" : Str)) = false := by decide)
    (hcd : (x == ("__classdict__" : Str)) = false := by decide) : PE X (.Name x pos) (tVar i) := pe_var hN hv hd hcd
end

/-! ### tests -/
theorem iteF {A B : Prop} (h : B) : if false = true then A else B := by
  rw [if_neg Bool.false_ne_true]
  exact h
theorem iteT {A B : Prop} (h : A) : if true = true then A else B := by
  rw [if_pos rfl]
  exact h
theorem ite2 {c A B : Prop} [Decidable c] (h1 : c → A) (h2 : ¬ c → B) : if c then A else B := by
  by_cases h : c
  · rw [if_pos h]
    exact h1 h
  · rw [if_neg h]
    exact h2 h
/-! ### heaps -/
def Same (H H' : Hp) : Prop := ∀ b o, H b = some o → H' b = some o
theorem Same.refl (H : Hp) : Same H H := fun _ _ h => h
theorem Same.trans {H H1 H2 : Hp} (a : Same H H1) (b : Same H1 H2) : Same H H2 := fun c o h => b c o (a c o h)
theorem Same.free {H H' : Hp} (e : Same H H') {l : Addr} (h : H' l = Option.none) : H l = Option.none := by
  cases q : H l with
  | none => rfl
  | some o =>
    rw [e l o q] at h
    cases h
theorem Same.seq {K : PySem.W.Frag} {H H' : Hp} {a : Addr} {xs : List V} (e : Same H H') (h : SqL K H a xs) : SqL K H' a xs := by
  rcases h with (h | ⟨o, h⟩) | h
  · exact .inl (.inl (e _ _ h))
  · exact .inl (.inr ⟨o, e _ _ h⟩)
  · exact .inr h

/-! ### a dict's pairs: keys that differ -/
section
variable {κ : Type} [DecidableEq κ]
end
end L2

set_option Elab.async false
set_option linter.all false
set_option maxRecDepth 100000
namespace L2
open PySem PySem.Spec PyProof.Rows
/-! ## own additions to the layer -/
theorem bt_len : bootBuiltins "len" = some (.builtin "len") := by decide +kernel
theorem bt_max : bootBuiltins "max" = some (.builtin "max") := by decide +kernel
theorem bt_isinstance : bootBuiltins "isinstance" = some (.builtin "isinstance") := by decide +kernel
theorem bt_int : bootBuiltins "int" = some (.type "int") := by decide +kernel
theorem bt_bool : bootBuiltins "bool" = some (.type "bool") := by decide +kernel
theorem bt_list : bootBuiltins "list" = some (.type "list") := by decide +kernel
theorem bt_dict : bootBuiltins "dict" = some (.type "dict") := by decide +kernel
theorem bt_all : bootBuiltins "all" = some (.builtin "all") := by decide +kernel

structure Cal (P : Program) (w : World) (K : PySem.W.Frag) (mg : Str → Option Value) (base : Heap) (x : Str) (k : Nat) (ps : List Str) (sp : Sp) : Prop where
  ex : ∃ f fd, FnOk P w K mg base CX0 k f fd ps sp ∧ Binds K fd ps [] ∧ mg x = some (.ref f) ∧ PySem.W.keepIn K (.ref f) = true
structure Dfn (K : PySem.W.Frag) (mg : Str → Option Value) (x : Str) (st : Stmt) (ps : List Str) (f : Addr) (fd : FuncData) : Prop where
  F : Fun K x x st f fd
  b : Binds K fd ps []
  m : mg x = some (.ref f)
theorem Dfn.cal {P : Program} {w : World} {K : PySem.W.Frag} {mg : Str → Option Value} {base : Heap} {x : Str} {st : Stmt} {ps : List Str} {f : Addr} {fd : FuncData} {k : Nat} {sp : Sp}
    (D : Dfn K mg x st ps f fd) (G : FnOk P w K mg base CX0 k f fd ps sp) : Cal P w K mg base x k ps sp := ⟨⟨f, fd, G, D.b, D.m, D.F.kp⟩⟩
section
variable {X : Cx} {k : Nat} {ps : List Str} {sp : Sp} {x : Str} {p pos : Pos} {e : Expr} {es : List Expr} {t : TA}
theorem pe_cal (C : Cal X.prog X.w X.K X.mg X.base x k ps sp) (hr : Room k X.A) (hg : Gl X x) (ha : PA X (e :: es) t) (hdb : (x == ("__debug__" : Str)) = false := by decide)
    (he : starEach (e :: es) X.env = (false, eval e X.env) :: starEach es X.env := by rfl) (hpl : (backTo pos (starEach es X.env)).any (·.1) = false := by rfl) :
    PE X (.Call (.Name x p) (e :: es) [] pos) (tCall sp [] E0 t) := by
  obtain ⟨f, fd, G, b, m, kp⟩ := C.ex
  exact pe_call G hr hg m kp b .nil pass0 ha hdb he hpl
end
section
variable {X : Cx}
def CDivB (_ j : Int) : Prop := 0 < j ∧ j < 1000000000000000000000000000000000000000000000000000000000000
theorem op_fdivB : OpR X (binaryOp .FloorDiv) (rI CDivB fun i j => .int (i / j)) := opI fun i j _ _ _ _ _ hc q => by
  have h1 : (0 : Int) < j := hc.1
  have h2 : j < 1000000000000000000000000000000000000000000000000000000000000 := hc.2
  have h3 : j.natAbs < 2 ^ 200 := by
    have z : (1000000000000000000000000000000000000000000000000000000000000 : Nat) ≤ 2 ^ 200 := by decide
    exact Nat.lt_of_lt_of_le (by omega) z
  have h4 : j.natAbs.log2 < 200 := (Nat.log2_lt (by omega)).mpr h3
  exact floordiv_int (by omega) (by rw [Int.fdiv_eq_ediv_of_nonneg i (by omega)]; exact q) (.inl (PyProof.noPylong_of_log2 (by omega)))
/-! == of two tuples, of two lists, of flat values -/
def eqVs : List V → List V → Bool
  | [], [] => true
  | x :: xs, y :: ys => eqV x y && eqVs xs ys
  | _, _ => false
def eqJ (xs ys : List V) (j : Nat) : Bool := match xs[j]?, ys[j]? with
  | some x, some y => eqV x y
  | _, _ => false
theorem eqJ_range : ∀ xs ys : List V, ((List.range (min xs.length ys.length)).all (eqJ xs ys) && (xs.length == ys.length)) = eqVs xs ys
  | [], [] => rfl
  | [], y :: ys => by simp [eqVs]
  | x :: xs, [] => by simp [eqVs]
  | x :: xs, y :: ys => by
    have ih := eqJ_range xs ys
    have hm : min (x :: xs).length (y :: ys).length = min xs.length ys.length + 1 := by simp [List.length_cons]
    have h0 : eqJ (x :: xs) (y :: ys) 0 = eqV x y := rfl
    have h1 : (eqJ (x :: xs) (y :: ys)) ∘ Nat.succ = eqJ xs ys := by
      funext j
      simp [eqJ, Function.comp]
    have hl : ((x :: xs).length == (y :: ys).length) = (xs.length == ys.length) := by
      rw [Bool.eq_iff_iff]
      simp
    rw [hm, List.range_succ_eq_map, List.all_cons, List.all_map, h0, h1, hl, Bool.and_assoc, ih]
    rfl
theorem eqJ_at {A : Around} {s : Shared} {xs ys : List V} {us vs : List Value} (r : Vals xs us) (q : Vals ys vs) (fx : xs.all flatV = true) (fy : ys.all flatV = true) (j : Nat) (h1 : j < us.toArray.size) (h2 : j < vs.toArray.size) :
    SeqAt.EqAt A s us.toArray[j] vs.toArray[j] (eqJ xs ys j) := by
  have l1 : j < xs.length := by rw [r.length]; simpa using h1
  have l2 : j < ys.length := by rw [q.length]; simpa using h2
  obtain ⟨u, eu, ru⟩ := r.get (List.getElem?_eq_getElem l1)
  obtain ⟨v, ev, rv⟩ := q.get (List.getElem?_eq_getElem l2)
  have e1 : us.toArray[j] = u := by
    have := (List.getElem?_eq_some_iff.mp eu).2
    simpa using this
  have e2 : vs.toArray[j] = v := by
    have := (List.getElem?_eq_some_iff.mp ev).2
    simpa using this
  have e3 : eqJ xs ys j = eqV xs[j] ys[j] := by
    unfold eqJ
    rw [List.getElem?_eq_getElem l1, List.getElem?_eq_getElem l2]
  rw [e1, e2, e3]
  exact eqAt_V ru rv (List.all_eq_true.mp fx _ (List.getElem_mem l1)) (List.all_eq_true.mp fy _ (List.getElem_mem l2))
theorem eqVs_len : ∀ {xs ys : List V}, xs.length ≠ ys.length → eqVs xs ys = false
  | [], [], h => absurd rfl h
  | [], _ :: _, _ => rfl
  | _ :: _, [], _ => rfl
  | x :: xs, y :: ys, h => by
    show (eqV x y && eqVs xs ys) = false
    rw [eqVs_len (fun e => h (by simp [e])), Bool.and_false]
def rEqL (K : PySem.W.Frag) : R2 := fun x y H Q => ∃ a b xs ys, x = .ref a ∧ y = .ref b ∧ SqL K H a xs ∧ SqL K H b ys ∧ xs.all flatV = true ∧ ys.all flatV = true ∧ Q (.bl (eqVs xs ys)) H
theorem op_eq_lst (hu : X.A.units < cLine) : OpR X (compareOp .Eq) (rEqL X.K) := by
  intro pins s σ H x y v u Q I rx ry h
  obtain ⟨a, b, xs, ys, rfl, rfl, hx, hy, fx, fy, q⟩ := h
  cases rx
  cases ry
  obtain ⟨its, r, pl, hz⟩ := I.list hx
  obtain ⟨its2, r2, pl2, hz2⟩ := I.list hy
  have e1 : its.toArray.size = xs.length := by simp [r.length]
  have e2 : its2.toArray.size = ys.length := by simp [r2.length]
  by_cases hl : xs.length = ys.length
  · refine SeqAt.eq_listAt (e := eqJ xs ys) pl.isList pl2.isList (by omega) hu (fun j h1 h2 => eqJ_at r r2 fx fy j h1 h2) ⟨.bl _, H, I, rfl, ?_⟩
    have z := eqJ_range xs ys
    rw [← hl, Nat.min_self] at z
    rw [e1]
    have z' : (List.range xs.length).all (eqJ xs ys) = eqVs xs ys := by
      rw [← z]
      simp
    rw [z']
    exact q
  · refine SeqAt.eq_list_lengthsAt pl.isList pl2.isList ?_ hu ⟨.bl _, H, I, rfl, ?_⟩
    · rw [e1, e2]
      simpa using hl
    · rw [eqVs_len hl] at q
      exact q
end
theorem same_new {H : Hp} {p : Addr} (h : H p = none) (o : HO) : Same H (upd H p o) := fun b u q => by rw [upd_ne (ne_of_none q h)]; exact q
section
variable {X : Cx} {es : List Expr} {t : TA} {pos : Pos}
def tTupS (t : TA) : TE := fun σ H Q => t σ H fun xs H1 => xs.length ≤ sizeLine ∧ ∀ p H2, Same H1 H2 → H1 p = none → H2 p = some (.tup xs) → Q (.ref p) H2
def tLstS (t : TA) : TE := fun σ H Q => t σ H fun xs H1 => xs.length ≤ sizeLine ∧ ∀ p H2, Same H1 H2 → H1 p = none → H2 p = some (.lst xs) → Q (.ref p) H2
theorem pe_tupS {x1} (h : PA X es t) : PE X (.Tuple es x1 pos) (tTupS t) := by
  with_unfolding_all
    intro pins s σ H Q I hq
    refine wpAny_Tuple_spliced (thn (h pos pins s σ H _ I hq) fun us s1 ⟨xs, H1, I1, r, z, q⟩ => ⟨by rw [← r.length]; exact z, ?_⟩)
    have hf : H1 s1.heap.objs.size = none := I1.hok.fresh (Nat.le_refl _)
    refine ⟨.ref s1.heap.objs.size, upd H1 s1.heap.objs.size (.tup xs), I1.laid (t' := s1.toks) (fun b u e => Heap.get?_push_of_some _ e) (Nat.le_refl _) ?_, rfl, q _ _ (same_new hf _) hf upd_same⟩
    exact ⟨z, us, r, ⟨_, Heap.get?_push_size _ rfl, rfl, _, rfl⟩⟩
theorem pe_lstS (h : PA X es t) : PE X (.List es pos) (tLstS t) := by
  with_unfolding_all
    intro pins s σ H Q I hq
    refine wpAny_List_spliced (thn (h pos pins s σ H _ I hq) fun us s1 ⟨xs, H1, I1, r, z, q⟩ => ⟨by rw [← r.length]; exact z, ?_⟩)
    have hf : H1 s1.heap.objs.size = none := I1.hok.fresh (Nat.le_refl _)
    refine ⟨.ref s1.heap.objs.size, upd H1 s1.heap.objs.size (.lst xs), I1.laid (t' := s1.toks) (fun b u e => Heap.get?_push_of_some _ e) (Nat.le_refl _) ?_, rfl, q _ _ (same_new hf _) hf upd_same⟩
    exact ⟨z, us, 0, r, Heap.get?_push_size _ rfl⟩
end
section
variable {X : Cx} {st : Stmt} {rest : List Stmt} {t u : TS}
def tMid (t u : TS) : TS := fun D σ H => ∃ M : St → Hp → Prop, t { D with nx := M } σ H ∧ ∀ σ' H', M σ' H' → u D σ' H'
theorem pss_mid (h1 : PS X st t) (h2 : PSs X rest u) : PSs X (st :: rest) (tMid t u) := by
  with_unfolding_all
    intro pins s σ H D I h
    obtain ⟨M, h, hm⟩ := h
    refine wpAny_execs_cons (thn (h1 pins s σ H { D with nx := M } I h) fun f s1 q => ?_)
    cases f with
    | next =>
      obtain ⟨σ', H', I', q⟩ := q
      exact h2 pins s1 σ' H' D I' (hm σ' H' q)
    | ret v => exact q
    | brk => exact q
    | cont => exact q
end
theorem sz (n : Nat) (h : n ≤ 1000) : n ≤ sizeLine := Nat.le_of_lt (small1000 h)
def spLaw (K : PySem.W.Frag) : Sp := fun vs H Q _ => ∃ (a : Addr) (ns : List Int), vs = [.ref a] ∧ SqL K H a (ns.map V.int) ∧ ns.length ≤ 63 ∧ ∀ H', Q (.bl true) H'
section
variable {X : Cx}
def rCatS : R2 := fun x y H Q => ∃ l b xs zs, x = .ref l ∧ y = .ref b ∧ H l = some (.lst xs) ∧ H b = some (.lst zs) ∧ xs.length + zs.length ≤ sizeLine ∧ ∀ p H2, Same H H2 → H p = none → H2 p = some (.lst (xs ++ zs)) → Q (.ref p) H2
theorem op_catS : OpR X (binaryOp .Add) rCatS := by
  intro pins s σ H x y v u Q I rx ry h
  obtain ⟨l, b, xs, zs, e1, e2, h1, h2, hz, q⟩ := h
  exact op_cat pins s σ H x y v u Q I rx ry ⟨l, b, xs, zs, e1, e2, h1, h2, hz, fun p hp => q p _ (same_new hp _) hp upd_same⟩
end
theorem TyOf.same {K : PySem.W.Frag} {H H' : Hp} {x : V} {t : Value} (s : Same H H') (h : TyOf K H x t) : TyOf K H' x t := by
  cases h with
  | non => exact .non
  | bl b => exact .bl b
  | int i => exact .int i
  | str z => exact .str z
  | flt z => exact .flt z
  | lst e => exact .lst (s _ _ e)
  | frz e => exact .frz (s _ _ e)
  | tup e => exact .tup (s _ _ e)
  | dK e => exact .dK (s _ _ e)
  | dT e => exact .dT (s _ _ e)
  | ins e cl ha hn htk hm => exact .ins (s _ _ e) cl ha hn htk hm
theorem iteD {c A B : Prop} [Decidable c] (hc : c) (h : A) : if decide c = true then A else B := by
  rw [decide_eq_true hc]
  exact iteT h
theorem iteDn {c A B : Prop} [Decidable c] (hc : ¬ c) (h : B) : if decide c = true then A else B := by
  rw [decide_eq_false hc]
  exact iteF h
end L2

set_option Elab.async false
set_option linter.all false
set_option maxRecDepth 100000
set_option maxHeartbeats 4000000
namespace PySem
def cloStep (env : Env) (x : Str × NameKind) (cs : List (Str × Addr)) : Sem (ForInStep (List (Str × Addr))) :=
  if (x.2 == NameKind.free) = true then do let c ← cellOf env x.1; pure (ForInStep.yield ((x.1, c) :: cs)) else pure (ForInStep.yield cs)
theorem clo_eq (scope : Scope) (env : Env) : closureFor scope env = (forIn scope.names ([] : List (Str × Addr)) (cloStep env) >>= fun cs => pure cs) := by
  unfold closureFor
  rfl
theorem clo_go {env : Env} : ∀ (l : List (Str × NameKind)) (acc : List (Str × Addr)), (∀ y ∈ l, y.2 = .free → ∃ c, env.cells.lookup y.1 = some c) → (∀ x c, acc.lookup x = some c → env.cells.lookup x = some c) →
    ∃ cl, (forIn l acc (cloStep env) : Sem _) = pure cl ∧ (∀ x c, cl.lookup x = some c → env.cells.lookup x = some c) ∧ (∀ x, (x, NameKind.free) ∈ l → ∃ c, cl.lookup x = some c) ∧ (∀ x c, acc.lookup x = some c → ∃ c, cl.lookup x = some c)
  | [], acc, _, ha => ⟨acc, rfl, ha, fun x h => (by cases h), fun x c h => ⟨c, h⟩⟩
  | (n, k) :: l, acc, h, ha => by
    by_cases hk : k = .free
    · subst hk
      obtain ⟨c, hc⟩ := h (n, .free) List.mem_cons_self rfl
      have ha' : ∀ x c', ((n, c) :: acc).lookup x = some c' → env.cells.lookup x = some c' := fun x c' e => by
        rw [List.lookup_cons] at e
        by_cases q : x = n
        · subst q
          simp at e
          rw [hc, e]
        · have : (x == n) = false := by simpa using q
          rw [this] at e
          exact ha x c' e
      obtain ⟨cl, e1, e2, e3, e4⟩ := clo_go l ((n, c) :: acc) (fun y hy => h y (List.mem_cons_of_mem _ hy)) ha'
      refine ⟨cl, ?_, e2, fun x hx => ?_, fun x c' hx => ?_⟩
      · rw [List.forIn_cons]
        have : cloStep env (n, .free) acc = pure (ForInStep.yield ((n, c) :: acc)) := by
          simp only [cloStep, cellOf, hc]
          rfl
        rw [this, pure_bind]
        exact e1
      · rcases List.mem_cons.mp hx with q | q
        · cases q
          exact e4 n c (by simp)
        · exact e3 x q
      · by_cases q : x = n
        · subst q
          exact e4 x c (by simp)
        · have : (x == n) = false := by simpa using q
          exact e4 x c' (by rw [List.lookup_cons, this]; exact hx)
    · obtain ⟨cl, e1, e2, e3, e4⟩ := clo_go l acc (fun y hy => h y (List.mem_cons_of_mem _ hy)) ha
      refine ⟨cl, ?_, e2, fun x hx => ?_, e4⟩
      · rw [List.forIn_cons]
        have : cloStep env (n, k) acc = pure (ForInStep.yield acc) := by
          have z : (k == NameKind.free) = false := by simpa using hk
          simp only [cloStep, z]
          rfl
        rw [this, pure_bind]
        exact e1
      · rcases List.mem_cons.mp hx with q | q
        · cases q
          exact absurd rfl hk
        · exact e3 x q
theorem closure_of {scope : Scope} {env : Env} (h : ∀ y ∈ scope.names, y.2 = .free → ∃ c, env.cells.lookup y.1 = some c) :
    ∃ cl, closureFor scope env = pure cl ∧ (∀ x c, cl.lookup x = some c → env.cells.lookup x = some c) ∧ (∀ x, (x, NameKind.free) ∈ scope.names → ∃ c, cl.lookup x = some c) := by
  obtain ⟨cl, e1, e2, e3, _⟩ := clo_go scope.names [] h (fun x c e => by simp at e)
  exact ⟨cl, by rw [clo_eq, e1]; rfl, e2, e3⟩
end PySem
namespace L2
open PySem PySem.Spec PyProof.Rows
/-! ### a list comprehension: one for, at most one if; its block is a context of its own -/
abbrev cxComp (X : Cx) (N : List Str) (scope : Scope) (cl : List (Str × Addr)) (C : Addr) (s₀ : Shared) (H₀ : Hp) (ex : List Addr) : Cx where
  prog := X.prog
  w := X.w
  K := X.K
  mg := X.mg
  base := X.base
  A := X.A
  N := N
  s₀ := s₀
  H₀ := H₀
  env := compEnvC scope cl C X.env
  outer := X.stack
  stack := X.stack
  ex := ex
  fn := fun _ => false
  calm := X.calm
  pn := []
  xe := fun _ _ => False
def CTests (Y : Cx) (ifs : List Expr) (t : TT) : Prop :=
  ∀ (pins : List (Addr × Obj)) (s : Shared) (σ : St) (H : Hp) (Q : Bool → Hp → Prop), Inv Y pins σ H s → t σ H Q →
    wpAny (model Y.prog Y.w) Y.A (forIn ifs true fun c r => if r = true then do let ok ← isTrue c Y.env (eval c Y.env); pure (ForInStep.yield ok) else pure (ForInStep.yield r)) (TP Y pins σ Q) Y.xe s
def tYes : TT := fun _ H Q => Q true H
theorem ct_nil {Y : Cx} : CTests Y [] tYes := fun _ _ _ H _ I h => wpAny_tests_nil ⟨H, I, h⟩
theorem ct_one {Y : Cx} {c : Expr} {t : TT} (h : PT Y c t) : CTests Y [c] t := by
  with_unfolding_all
    exact fun pins s σ H Q I q => wpAny_tests_one (h pins s σ H Q I q)
def caps (σ : St) (js : List Nat) : St := js.map fun j => (σ[j]?).join
def CompGo (J : It) (js : List Nat) (tc : TT) (te : TE) (σ : St) (H1 : Hp) (Q : VK) : Prop :=
  ∀ D H2, Same H1 H2 → H1 D = none → H2 D = some (.lst []) → ∃ W : Nat → Nat → List V → Hp → Prop, (∃ m, W 0 m [] H2) ∧ ∀ i m acc H3, W i m acc H3 →
    H3 D = some (.lst acc) ∧ acc.length < sizeLine ∧ ((J.stop i H3 ∧ Q (.ref D) H3) ∨ (J.go i H3 ∧ ∀ x H4, J.yld i H3 x H4 →
      tc (some x :: caps σ js) H4 fun b H5 => if b = true then te (some x :: caps σ js) H5 fun v H6 => H6 D = some (.lst acc) ∧
          ∀ H7, (∀ b o, b ≠ D → H6 b = some o → H7 b = some o) → H7 D = some (.lst (acc ++ [v])) → ∃ m', m' < m ∧ W (i + 1) m' (acc ++ [v]) H7
        else ∃ m', m' < m ∧ W (i + 1) m' acc H5))
def tComp (wi : TI) (js : List Nat) (tc : TT) (te : TE) : TE := fun σ H Q => wi σ H fun J H1 => CompGo J js tc te σ H1 Q
structure CompScope (X : Cx) (scope : Scope) (x : Str) (N : List Str) (js : List Nat) : Prop where
  kind : scope.kind = .function
  nocell : ∀ y ∈ scope.names, y.2 ≠ .cell
  loc : ∀ y ∈ scope.names, y.2 = .local → scope.names.lookup y.1 = some .local
  own : scope.names.lookup x = some .local
  free : ∀ y ∈ scope.names, y.2 = .free → X.env.kindOf y.1 = some .cell
  nd : N.Nodup
  head : N[0]? = some x
  len : N.length = js.length + 1
  apart : ∀ y, scope.names.lookup y = some .local → (y, NameKind.free) ∉ scope.names
  cap : ∀ (k j : Nat) (y : Str), N[k + 1]? = some y → js[k]? = some j → X.N[j]? = some y ∧ Vis X.env.scope y ∧ X.env.kindOf y = some .cell ∧ (y, NameKind.free) ∈ scope.names
theorem CompScope.of {X : Cx} {scope : Scope} {x : Str} {N : List Str} {js : List Nat} (c1 : scope.kind = .function) (c2 : (scope.names.all fun y => y.2 != .cell) = true)
    (c3 : (scope.names.all fun y => y.2 != .local || scope.names.lookup y.1 == some .local) = true) (c4 : scope.names.lookup x = some .local) (c5 : (scope.names.all fun y => y.2 != .free || X.env.kindOf y.1 == some .cell) = true)
    (nd : N.Nodup) (hd : N[0]? = some x) (len : N.length = js.length + 1) (c6 : (scope.names.all fun y => y.2 != .free || scope.names.lookup y.1 != some .local) = true)
    (c7 : (((N.drop 1).zip js).all fun p => X.N[p.2]? == some p.1 && X.env.scope.names.lookup p.1 == some .cell && scope.names.contains (p.1, NameKind.free)) = true) : CompScope X scope x N js where
  kind := c1
  nocell := fun y hy e => by
    have := List.all_eq_true.mp c2 y hy
    rw [e] at this
    exact absurd this (by decide)
  loc := fun y hy e => by
    have := List.all_eq_true.mp c3 y hy
    rw [e] at this
    simpa using this
  own := c4
  free := fun y hy e => by
    have := List.all_eq_true.mp c5 y hy
    rw [e] at this
    simpa using this
  nd := nd
  head := hd
  len := len
  apart := fun y hl hm => by
    have := List.all_eq_true.mp c6 _ hm
    rw [hl] at this
    simp at this
  cap := fun k j y h1 h2 => by
    have hz : ((N.drop 1).zip js)[k]? = some (y, j) := by
      rw [List.getElem?_zip_eq_some]
      exact ⟨by rw [List.getElem?_drop, Nat.add_comm]; exact h1, h2⟩
    have := List.all_eq_true.mp c7 _ (List.mem_of_getElem? hz)
    simp only [Bool.and_eq_true, beq_iff_eq] at this
    obtain ⟨⟨a, b⟩, c⟩ := this
    exact ⟨a, .inr (.inl b), b, by simpa using c⟩
theorem relabel_cell {scope : Scope} {env : Env} {y : Str} {k : NameKind} (h : (relabel scope env).names.lookup y = some k) (hk : k = .cell ∨ k = .free) (nocell : ∀ z ∈ scope.names, z.2 ≠ .cell) : (y, NameKind.free) ∈ scope.names := by
  have hm := PySem.mem_of_lookup h
  obtain ⟨⟨n, k'⟩, hn, e⟩ := List.mem_map.mp hm
  dsimp only at e
  by_cases c : (k' == NameKind.free && env.scope.kind == .function && env.kindOf n == some .cell) = true
  · rw [if_pos c] at e
    have ek : k' = .free := by
      simp only [Bool.and_eq_true, beq_iff_eq] at c
      exact c.1.1
    cases e
    rw [← ek]
    exact hn
  · rw [if_neg c] at e
    cases e
    rcases hk with rfl | rfl
    · exact absurd rfl (nocell _ hn)
    · exact hn
theorem pe_comp {X : Cx} {iter elt : Expr} {x : Str} {px : Pos} {ifs : List Expr} {scope : Scope} {pos : Pos} {wi : TI} {N : List Str} {js : List Nat} {tc : TT} {te : TE}
    (hc : X.calm = true) (S : CompScope X scope x N js) (hi : PI X (.Name x px) iter wi)
    (ht : ∀ cl C s₀ H₀ ex, CTests (cxComp X N scope cl C s₀ H₀ ex) ifs tc) (he : ∀ cl C s₀ H₀ ex, PE (cxComp X N scope cl C s₀ H₀ ex) elt te)
    (hs : ∀ x, foldedSetIterable iter X.env x = pure x := by intro _; rfl) :
    PE X (.ListComp elt [⟨.Name x px, iter, ifs, 0⟩] scope pos) (tComp wi js tc te) := by
  with_unfolding_all
    intro pins s σ H Q I h
    have hcells : ∀ y ∈ scope.names, y.2 = .free → ∃ c, X.env.cells.lookup y.1 = some c := fun y hy hf => I.ok.has y.1 (.inl (S.free y hy hf))
    obtain ⟨cl, ecl, cl1, cl2⟩ := closure_of hcells
    rw [eval_ListComp]
    refine wpAny_comprehension_free (use := none) rfl hs ecl S.kind S.loc (thn (hi pins s σ H _ I h) fun v s1 h1 => thn h1 fun itv s2 h2 => ?_)
    obtain ⟨it, fp, tn, J, H2, e, I2, T, st2, f2, q2⟩ := h2
    subst e
    refine wpAny_newObj_type (wpAny_newFunctionEnv S.nocell (by intro y hy; simp at hy) (fun h₁ hns₁ hsb₁ => ?_) S.kind)
    dsimp only at hns₁ hsb₁ ⊢
    generalize hP2 : s2.heap.push { cls := .type "list", dict := none, data := .seq ([] : List Value).toArray } = P2 at hns₁ hsb₁ ⊢
    have hC : P2.objs.size = s2.heap.objs.size + 1 := by rw [← hP2, Heap.size_push]
    have below : ∀ b, b < s2.heap.objs.size → b ≠ P2.objs.size ∧ b ≠ s2.heap.objs.size := fun b hb => ⟨by rw [hC]; exact Nat.ne_of_lt (Nat.lt_succ_of_lt hb), Nat.ne_of_lt hb⟩
    have hDC : s2.heap.objs.size ≠ P2.objs.size := by rw [hC]; exact Nat.ne_of_lt (Nat.lt_succ_self _)
    have old : ∀ b o, s2.heap.get? b = some o → h₁.get? b = some o := fun b o e => hsb₁.extBut b o (below b (Heap.lt_size e)).1 (Heap.get?_push_of_some _ (hP2 ▸ Heap.get?_push_of_some _ e))
    have hD : h₁.get? s2.heap.objs.size = some { cls := .type "list", dict := none, data := .seq ([] : List Value).toArray } := hsb₁.extBut _ _ hDC (Heap.get?_push_of_some _ (hP2 ▸ Heap.get?_push_size _ rfl))
    have hDn : H2 s2.heap.objs.size = none := I2.hok.fresh (Nat.le_refl _)
    have hCn : H2 P2.objs.size = none := I2.hok.fresh (by rw [hC]; exact Nat.le_succ _)
    obtain ⟨W, ⟨m0, w0⟩, turn⟩ := q2 s2.heap.objs.size _ (same_new hDn (.lst [])) hDn upd_same
    -- the block's context
    have fpl : ∀ b ∈ fp, b < s2.heap.objs.size := fun b hb => by
      obtain ⟨o, e, _⟩ := T.obj 0 _ st2 b hb
      exact Heap.lt_size e
    have yok : (cxComp X N scope cl P2.objs.size s2 H2 fp).Ok :=
      { mod := I2.ok.mod
        kind := S.kind
        glob := I2.ok.glob
        blt := I2.ok.blt
        above := by show s2.heap.objs.size ≤ P2.objs.size; rw [hC]; exact Nat.le_succ _
        inj := fun y z c h1 h2 => I2.ok.inj y z c (cl1 y c h1) (cl1 z c h2)
        has := fun y hy => by
          have hy' : (y, NameKind.free) ∈ scope.names := by
            rcases hy with hy | hy
            · exact relabel_cell (env := X.env) hy (.inl rfl) S.nocell
            · exact relabel_cell (env := X.env) hy (.inr rfl) S.nocell
          exact cl2 y hy'
        cab := fun y c hf _ => by cases hf
        hd := fun hc' => I2.ok.hd hc'
        frames := I2.ok.frames
        stk := .inl rfl
        exf := fun b hb => ⟨(below b (fpl b hb)).1, fun y c e => (f2 b hb).2.2.2.2.1 y c (cl1 y c e)⟩
        bs := I2.bs
        bsz := Nat.le_trans I2.ok.bsz I2.sz
        noex := fun b o e hb => by
          rcases (f2 b hb).2.2.2.1 with z | z
          · exact I2.ok.noex b o e z
          · exact absurd (Nat.lt_of_lt_of_le (Nat.lt_of_lt_of_le (Heap.lt_size e) I2.ok.bsz) z) (Nat.lt_irrefl _)
        exfs := fun b hb hf => by
          rcases List.mem_cons.mp (I2.stkSub b hf) with z | z
          · exact (f2 b hb).2.1 z
          · exact (f2 b hb).2.2.1 z
        funs := I2.stack
        frf := I2.stkFree }
    have hokD : HOk X.prog X.w (upd H2 s2.heap.objs.size (.lst [])) h₁ := I2.hok.laid old (Nat.le_refl _) ⟨Nat.zero_le _, [], 0, .nil, hD⟩
    have I3 : Inv (cxComp X N scope cl P2.objs.size s2 H2 fp) [] (none :: caps σ js) (upd H2 s2.heap.objs.size (.lst [])) { s2 with heap := h₁, toks := s2.toks + ([] : List (Str × Value)).length } :=
      { ok := yok
        os := rfl
        bare := I2.bare
        base := Un.laid old (Nat.le_refl _) hDn
        loc := by
          refine ⟨_, hns₁, fun i y v e1 e2 e3 => ?_⟩
          cases i with
          | zero => simp at e2
          | succ k =>
            have e2' : (caps σ js)[k]? = some (some v) := by simpa using e2
            unfold caps at e2'
            rw [List.getElem?_map] at e2'
            cases ej : js[k]? with
            | none => rw [ej] at e2'; cases e2'
            | some j =>
              rw [ej] at e2'
              have e4 : (σ[j]?).join = some v := Option.some.inj e2'
              have e5 : σ[j]? = some (some v) := by
                cases eσ : σ[j]? with
                | none => rw [eσ] at e4; cases e4
                | some o => rw [eσ] at e4; exact congrArg some e4
              obtain ⟨n1, n2, n3, n4⟩ := S.cap k j y e1 ej
              obtain ⟨mX, _, lX⟩ := I2.loc
              obtain ⟨u, ru, lk⟩ := lX j y v n1 e5 n2
              refine ⟨u, ru, ?_⟩
              rcases lk with ⟨lk, _⟩ | ⟨_, c, ec, cell⟩
              · rw [n3] at lk; cases lk
              · obtain ⟨c', ec'⟩ := cl2 y n4
                have : c' = c := Option.some.inj ((cl1 y c' ec').symm.trans ec)
                subst this
                obtain ⟨o, ho, hd⟩ := cell
                refine .inr ⟨?_, c', ec', ⟨o, old _ _ ho, hd⟩⟩
                -- the name is a cell or free in the block
                have e3' : (relabel scope X.env).names.lookup y = some .local ∨ (relabel scope X.env).names.lookup y = some .cell ∨ (relabel scope X.env).names.lookup y = some .free := e3
                rcases e3' with z | z | z
                · exfalso
                  have hm := PySem.mem_of_lookup z
                  obtain ⟨⟨n, k'⟩, hn, e⟩ := List.mem_map.mp hm
                  dsimp only at e
                  by_cases cc : (k' == NameKind.free && X.env.scope.kind == .function && X.env.kindOf n == some .cell) = true
                  · rw [if_pos cc] at e
                    cases e
                  · rw [if_neg cc] at e
                    cases e
                    have l1 := S.loc _ hn rfl
                    have l2 := lookup_relabel_local (env := X.env) l1
                    have f1 := S.free _ n4 rfl
                    exact S.apart y l1 n4
                · exact .inl z
                · exact .inr z
        cell := fun y c e => by
          obtain ⟨v, o, ho, hd⟩ := I2.cell y c (cl1 y c e)
          exact ⟨v, o, old _ _ ho, hd⟩
        free := by show upd H2 s2.heap.objs.size (.lst []) P2.objs.size = none; rw [upd_ne (Ne.symm hDC)]; exact hCn
        freeC := fun y c e => by
          obtain ⟨v, o, ho, hd⟩ := I2.cell y c (cl1 y c e)
          rw [upd_ne (below c (Heap.lt_size ho)).2]
          exact I2.freeC y c (cl1 y c e)
        pin := fun p hp => by simp at hp
        hok := hokD
        len := by show (none :: caps σ js).length = N.length; rw [S.len]; simp [caps] }
    have st3 : tn 0 h₁ := T.keep 0 _ _ st2 fun b _ o e => old b o e
    have fr3 : ∀ b ∈ fp, (upd H2 s2.heap.objs.size (.lst [])) b = none := fun b hb => by
      rw [upd_ne (below b (fpl b hb)).2]
      exact (f2 b hb).1
    -- what stays true of the iterator's objects
    have stat : ∀ {H' : Hp}, (∀ b ∈ fp, H' b = none) → ∀ b ∈ fp, FpOk (cxComp X N scope cl P2.objs.size s2 H2 fp) [] H' b := fun hn b hb =>
      ⟨hn b hb, (below b (fpl b hb)).1, yok.exfs b hb, .inl hb, fun y c e => (f2 b hb).2.2.2.2.1 y c (cl1 y c e), fun p hp => by simp at hp⟩
    have pgn : PG (cxComp X N scope cl P2.objs.size s2 H2 fp) (.Name x px) (gName 0) := pg_name S.nd S.head (.inl (lookup_relabel_local S.own)) (.inr (lookup_relabel_local S.own))
    have loop : ∀ s₃ : Shared, s₃ = { s2 with heap := h₁, toks := s2.toks + ([] : List (Str × Value)).length } →
        codeAny (model X.prog X.w) X.A (.compLoop (.ListComp elt [⟨.Name x px, iter, ifs, 0⟩] scope pos) 0 (.ref it) (.ref s2.heap.objs.size) (compEnvC scope cl P2.objs.size X.env))
          (compPost (model X.prog X.w) X.A X.xe none (EP X pins σ Q) (.ref s2.heap.objs.size) P2.objs.size) s₃ := by
      rintro s₃ rfl
      refine codeAny_loop rfl (fun n s' => ∃ i o acc H', Inv (cxComp X N scope cl P2.objs.size s2 H2 fp) [] (o :: caps σ js) H' s' ∧ tn i s'.heap ∧ (∀ b ∈ fp, H' b = none) ∧ W i n acc H') ?_ m0 ⟨0, none, [], _, I3, st3, fr3, w0⟩
      rintro n s4 ⟨i, o, acc, H4, I4, st4, fr4, w4⟩
      show wpAny _ X.A ((compTurn (.ListComp elt [⟨.Name x px, iter, ifs, 0⟩] scope pos) 0 (.ref it) (.ref s2.heap.objs.size) (compEnvC scope cl P2.objs.size X.env)).onRaise (fun x => do noteFrame x (compEnvC scope cl P2.objs.size X.env); theTreesLotGoes x)) _ _ s4
      refine wpAny_noted ?_
      rw [compTurn_list]
      refine wpAny_bind (wpAny_standAt (wpAny_bind ?_))
      obtain ⟨hD4, hz4, alt⟩ := turn i n acc H4 w4
      rcases alt with ⟨stop, qn⟩ | ⟨go, step⟩
      · refine thn (T.done (cxComp X N scope cl P2.objs.size s2 H2 fp) rfl rfl rfl hc i [] s4 _ H4 _ I4 (stat fr4) st4 stop) fun r s5 ⟨hr, I5⟩ => ?_
        subst hr
        refine wpAny_pure ?_
        obtain ⟨m5, n5, _⟩ := I5.loc
        refine ⟨m5, n5, fun h' sb => ⟨.ref s2.heap.objs.size, H4, ?_, rfl, qn⟩⟩
        have k5 : ∀ b o, b ≠ P2.objs.size → s5.heap.get? b = some o → h'.get? b = some o := fun b o hb e => sb.extBut b o hb e
        have u5 := I5.base
        have nC : ∀ b o, s2.heap.get? b = some o → b ≠ P2.objs.size := fun b o e => (below b (Heap.lt_size e)).1
        refine I2.call' (s' := { s5 with heap := h' }) (ch := fp) I5.os ?_ ?_ I5.bare fun b hb => ⟨(f2 b hb).2.2.2.1, (f2 b hb).2.1, (f2 b hb).2.2.2.2.1, (f2 b hb).2.2.2.2.2⟩
        · refine ⟨fun b o e n1 n2 n3 => k5 b o (nC b o e) (u5.keep b o e n1 n2 n3), fun b o e n1 n2 n3 => ?_, u5.free, fun b o e n3 => ?_, u5.tups, u5.frzs, u5.tbls⟩
          · obtain ⟨sl, z⟩ := u5.slot b o e n1 n2 n3
            exact ⟨sl, k5 b _ (nC b o e) z⟩
          · obtain ⟨o', z⟩ := u5.there b o e n3
            exact ⟨o', k5 b o' (nC b o e) z⟩
        · intro b u e
          refine (I5.hok b u e).stay (fun c v hc q => k5 c v ?_ q) (fun _ q => q) (fun _ _ q => q) fun _ _ _ q => q
          rintro rfl
          rcases hc with z | z
          · rw [← z, show H4 P2.objs.size = none from I5.free] at e; cases e
          · have := I5.free
            rw [show H4 P2.objs.size = none from I5.free] at z
            cases z
      · refine thn (T.item (cxComp X N scope cl P2.objs.size s2 H2 fp) rfl rfl rfl hc i [] s4 _ H4 _ I4 (stat fr4) st4 go) fun r s5 ⟨u, hr, h5⟩ => ?_
        subst hr
        refine wpAny_bind (thn h5 fun _ s6 ⟨y, H6, I6, r6, y6, st6, fr6⟩ => ?_)
        have I6' := I6.pinned (stat fr6) (T.obj _ _ st6)
        refine wpAny_bind (wpAny_mono (pgn _ s6 (o :: caps σ js) H6 y u (fun σ' H' => σ' = some y :: caps σ js ∧ H' = H6) I6' r6 ⟨rfl, rfl⟩) (fun _ s7 ⟨σ7, H7, I7, e7, e8⟩ => ?_) fun _ _ z => z.elim)
        subst e7 e8
        have back : ∀ {s9 : Shared} {H9 : Hp} {acc9 : List V} {m9 : Nat}, Inv (cxComp X N scope cl P2.objs.size s2 H2 fp) ([] ++ pinsAt fp s6.heap) (some y :: caps σ js) H9 s9 → m9 < n → W (i + 1) m9 acc9 H9 →
            ∃ m, m < n ∧ ∃ i o acc H', Inv (cxComp X N scope cl P2.objs.size s2 H2 fp) [] (o :: caps σ js) H' s9 ∧ tn i s9.heap ∧ (∀ b ∈ fp, H' b = none) ∧ W i m acc H' := fun {s9 H9 acc9 m9} I9 hm w9 => by
          refine ⟨m9, hm, i + 1, some y, acc9, H9, I9.unpinned, T.keep _ _ _ st6 fun b hb o e => (I9.pin (b, o) (List.mem_append_right _ (List.mem_append_right _ (mem_pinsAt hb e)))).1, fun b hb => ?_, w9⟩
          obtain ⟨o, e, d⟩ := T.obj _ _ st6 b hb
          exact (I9.pin (b, o) (List.mem_append_right _ (List.mem_append_right _ (mem_pinsAt hb e)))).2.1
        refine wpAny_bind (wpAny_mono (ht cl _ s2 H2 fp _ s7 _ _ _ I7 (step y _ y6)) (fun ok s8 ⟨H8, I8, q8⟩ => ?_) fun _ _ z => z.elim)
        cases ok with
        | false =>
          obtain ⟨m9, hm, w9⟩ := q8
          exact wpAny_pure ⟨rfl, back I8 hm w9⟩
        | true =>
          refine wpAny_bind (wpAny_bind (wpAny_mono (he cl _ s2 H2 fp _ s8 _ _ _ I8 q8) (fun xv s9 ⟨v9, H9, I9, r9, hD9, q9⟩ => ?_) fun _ _ z => z.elim))
          refine wpAny_bind (wpAny_mono (mt_append (X := cxComp X N scope cl P2.objs.size s2 H2 fp) _ s9 _ H9 (.ref s2.heap.objs.size) [v9] (.ref s2.heap.objs.size) [xv] (fun _ H' => H' = upd H9 s2.heap.objs.size (.lst (acc ++ [v9]))) I9 rfl (.cons r9 .nil) ⟨_, acc, v9, rfl, rfl, hD9, hz4, rfl⟩) (fun _ s10 ⟨v10, H10, I10, _, e10⟩ => ?_) fun _ _ z => z.elim)
          subst e10
          obtain ⟨m9, hm, w9⟩ := q9 _ (fun b o hb e => by rw [upd_ne hb]; exact e) upd_same
          exact wpAny_pure (wpAny_pure ⟨rfl, back I10 hm w9⟩)
    exact codeAny_compStart_list (loop _ rfl) (T.self _ 0 _ _ _ st3 (loop _ rfl))
end L2

namespace M1
def gd (x y : Int) : Int := ((Int.gcd x y : Nat) : Int)
theorem gd_zero {x : Int} (h : 0 ≤ x) : gd x 0 = x := by
  unfold gd
  rw [Int.gcd_zero_right]
  omega
theorem gd_step {x y : Int} : gd y (x % y) = gd x y := by
  unfold gd
  have e : x % y = x + y * (-(x / y)) := by
    rw [Int.mul_neg, Int.emod_def]
    omega
  rw [Int.gcd_comm y, e, Int.gcd_add_mul_left_left]
theorem gd_pos {x y : Int} (h : 0 < y) : 0 < gd x y := by
  have : 0 < Int.gcd x y := Int.gcd_pos_of_ne_zero_right x (by omega)
  unfold gd
  omega
theorem gd_dvd_right (x y : Int) : gd x y ∣ y := Int.gcd_dvd_right x y
theorem gd_le {x y : Int} (h : 0 < y) : gd x y ≤ y := Int.le_of_dvd h (gd_dvd_right x y)
end M1

set_option Elab.async false
set_option linter.all false
namespace M2
open PySem PySem.NumText
/-! ### what is read -/
end M2

set_option Elab.async false
set_option linter.all false
set_option maxRecDepth 100000
set_option maxHeartbeats 4000000
namespace L2
open PySem PySem.Spec PyProof.Rows
/-! ## texts -/
section
variable {X : Cx} {tg : Expr}
/-! slices, comparisons, methods -/
theorem all_range (bs : List Bool) : (List.range bs.length).all (fun i => (bs[i]?).getD true) = bs.all id := by
  induction bs with
  | nil => rfl
  | cons b r ih =>
    rw [List.length_cons, List.range_succ_eq_map, List.all_cons, List.all_map, List.all_cons, ← ih]
    rfl
theorem call_allB (hc : X.calm = true) : CallR X (.builtin "all") (fun xs H Q => ∃ (p : Addr) (bs : List Bool), xs = [.ref p] ∧ SqL X.K H p (bs.map V.bl) ∧ Q (.bl (bs.all id)) H) := by
  intro pins s σ H xs us Q I r h
  obtain ⟨p, bs, rfl, hq, q⟩ := h
  obtain ⟨u, rfl, ru⟩ := vals1 r
  cases ru
  obtain ⟨its, rv, pl, hz⟩ := I.list hq
  have lt : p < s.heap.objs.size := by
    obtain ⟨o, ho, _⟩ := pl.isList
    exact Heap.lt_size ho
  have hl : its.toArray.size = bs.length := by
    have := rv.length
    simp at this ⊢
    omega
  refine call_all_walk (wpAny_pyIter_list pl.isList ?_)
  refine ⟨s.heap.objs.size, _, _, _, _, _, fun i => (bs[i]?).getD true, rfl, Walks.list (prog := X.prog) (w := X.w) (A := X.A.in1) (show X.A.in1.handled = none from I.ok.hd hc) _ p (Nat.ne_of_lt lt) its.toArray, ⟨⟨_, Heap.get?_push_size _ rfl, rfl, rfl⟩, pl.isList.at fun o e => Heap.get?_push_of_some _ e⟩, fun i v s' Q' E' hP hQ' => ?_, fun h' tk kk => ?_⟩
  · have hP' : its[i]? = some v := by simpa using hP
    cases e : bs[i]? with
    | none =>
      have h1 : its.length ≤ i := by
        have h2 := List.getElem?_eq_none_iff.mp e
        simp at hl
        omega
      rw [List.getElem?_eq_none h1] at hP'
      cases hP'
    | some b =>
      dsimp only at hQ'
      rw [e] at hQ'
      obtain ⟨u, hu, ru⟩ := rv.get (i := i) (x := .bl b) (by rw [List.getElem?_map, e]; rfl)
      rw [hP'] at hu
      cases hu
      cases (show v = Value.bool b from ru)
      exact wpAny_truthy_bool hQ'
  · rw [hl, all_range]
    refine ⟨.bl _, H, I.kept (t' := tk) (h' := h') fun b o e => kk b o ?_ (Heap.get?_push_of_some _ e), rfl, q⟩
    intro z
    have z : b = s.heap.objs.size := by simpa using z
    exact Nat.ne_of_lt (Heap.lt_size e) z
theorem op_ne_lst (hu : X.A.units < cLine) : OpR X (compareOp .NotEq) (fun x y H Q => ∃ a b xs ys, x = .ref a ∧ y = .ref b ∧ SqL X.K H a xs ∧ SqL X.K H b ys ∧ xs.all flatV = true ∧ ys.all flatV = true ∧ Q (.bl (!eqVs xs ys)) H) := by
  intro pins s σ H x y v u Q I rx ry h
  obtain ⟨a, b, xs, ys, rfl, rfl, hx, hy, fx, fy, q⟩ := h
  cases rx
  cases ry
  obtain ⟨its, r, pl, hz⟩ := I.list hx
  obtain ⟨its2, r2, pl2, hz2⟩ := I.list hy
  have e1 : its.toArray.size = xs.length := by simp [r.length]
  have e2 : its2.toArray.size = ys.length := by simp [r2.length]
  by_cases hl : xs.length = ys.length
  · refine SeqAt.RcNeAt.lists (e := eqJ xs ys) pl.isList pl2.isList (by omega) hu (fun j h1 h2 => eqJ_at r r2 fx fy j h1 h2) X.prog X.w X.xe _ ⟨.bl _, H, I, rfl, ?_⟩
    have z := eqJ_range xs ys
    rw [← hl, Nat.min_self] at z
    rw [e1]
    have z' : (List.range xs.length).all (eqJ xs ys) = eqVs xs ys := by
      rw [← z]
      simp
    rw [z']
    exact q
  · refine SeqAt.RcNeAt.lists_lengths pl.isList pl2.isList ?_ hu X.prog X.w X.xe _ ⟨.bl _, H, I, rfl, ?_⟩
    · rw [e1, e2]
      simpa using hl
    · rw [eqVs_len hl] at q
      exact q
end
end L2

set_option Elab.async false
set_option linter.all false
set_option maxRecDepth 100000
set_option maxHeartbeats 4000000
namespace L2
open PySem PySem.Spec PyProof.Rows
/-! ## f-strings -/
abbrev TJ := Str → St → Hp → VK → Prop
section
variable {X : Cx} {e : Expr} {es : List Expr} {te : TE} {t : TJ} {pos : Pos}
/-! ## a loop, a word between: kept shut for the reading's own tactic -/
structure Box (P : Prop) : Prop where
  un : P
end
end L2

set_option Elab.async false
set_option linter.all false
set_option maxRecDepth 100000
set_option maxHeartbeats 4000000
namespace PySem
open Sem (wp)
section
variable {prog : Program} {w : World} {A : Around} {E : Value → Shared → Prop} {h : Heap} {g : Array GenState} {d : Drawn} {t : Nat} {os : OsState}
variable {nm q : Str} {C N : Addr} {bs bm bmB : List Value} {hdct : Bool} {sn : List Str} {sub : List Value} {ab : Bool} {col : Option Bool} {dd : Option Addr} {k0 k1 k2 k3 k5 : Option Value} {B newId initId : String}
theorem xc_type_call (F : ExcBaseFacts B newId initId bmB) (T : OwnTail h bmB bm) {mN : Str → Option Value} {rest : List Value} {fI : Addr} {oI : Obj} {Q : Fin → Shared → Prop}
    (hC : h.get? C = some (excClassObj nm q C N bs bm hdct sn sub ab col dd k0 k1 k2 k3 k5 newId)) (hn : h.Ns N mN) (hi : mN "__init__" = some (.ref fI))
    (hfI : h.get? fI = some oI) (hfc : oI.cls = .type "function")
    (hq : ∀ h' e, Heap.MadeExcOf h h' e (.ref C) rest →
      wpAny (model prog w) A (call (.ref fI) (.ref e :: rest)) (fun r s' => r = .none ∧ Q (.done (.ret (.ref e))) s') E ⟨h', g, d, t, os⟩) (hrest : rest.length ≤ sizeLine := by size_fits) :
    wpAny (model prog w) A (Builtin.«type.__call__» ⟨.ref C :: rest, []⟩) Q E ⟨h, g, d, t, os⟩ := by
  repeat (first | with_reducible refine wpAny_loadPart_at hC ?_ | with_reducible refine wpAny_madeBy_exc hC ?_ | wp_step)
  refine codeAny_call_builtin_code (Code.quiet_builtin _ F.quiet) (wpAny_check_new_subT F T hC ?_)
  refine codeAny_exc_new_subT F T hC ?_ hrest
  show wpAny _ _ _ _ _ _
  have hC₁ := Heap.get?_push_of_some { cls := .ref C, data := .fields #[.ref h.objs.size, .none, .none, .none, .bool false, .none] }
    (Heap.get?_push_of_some { cls := .type "tuple", data := .seq rest.toArray } hC)
  have hfI₁ := Heap.get?_push_of_some { cls := .ref C, data := .fields #[.ref h.objs.size, .none, .none, .none, .bool false, .none] }
    (Heap.get?_push_of_some { cls := .type "tuple", data := .seq rest.toArray } hfI)
  have hn₁ : ((h.push { cls := .type "tuple", data := .seq rest.toArray }).push { cls := .ref C, data := .fields #[.ref h.objs.size, .none, .none, .none, .bool false, .none] }).Ns N mN :=
    let ⟨o, es, ep, e, r⟩ := hn; ⟨o, es, ep, Heap.get?_push_of_some _ (Heap.get?_push_of_some _ e), r⟩
  have hget : ((h.push { cls := .type "tuple", data := .seq rest.toArray }).push
      { cls := .ref C, data := .fields #[.ref h.objs.size, .none, .none, .none, .bool false, .none] }).get? (h.objs.size + 1) = some
      { cls := .ref C, data := .fields #[.ref h.objs.size, .none, .none, .none, .bool false, .none] } := by heap_get
  have hcC : (Value.ref C :: bm).contains (.ref C) = true := by simp
  have T₁ := T.keeps (h' := (h.push { cls := .type "tuple", data := .seq rest.toArray }).push { cls := .ref C, data := .fields #[.ref h.objs.size, .none, .none, .none, .bool false, .none] })
    fun b o e => Heap.get?_push_of_some _ (Heap.get?_push_of_some _ e)
  unfold isInstance
  repeat (first | with_reducible refine wpAny_loadPart_at hget ?_ | (with_reducible refine wpAny_isSubtype_exc hC₁ ?_; rw [hcC]) | wp_step)
  show wpAny _ _ (typeLookup (.ref C) _) _ _ _
  refine wpAny_typeLookup_tail hC₁ hn₁ T₁ F.mroIs F.init.lookup ?_
  rw [hi]
  refine wpAny_holding (wpAny_bind ?_)
  unfold bindSpecial
  refine wpAny_bind (wpAny_typeOf (T := "function") ⟨_, hfI₁, hfc⟩ ?_)
  rw [if_pos (by decide)]
  refine wpAny_pure (wpAny_bind (wpAny_mono (hq _ (h.objs.size + 1) ⟨fun b o hb => Heap.get?_push_of_some _ (Heap.get?_push_of_some _ hb), Heap.get?_none_of_le (Nat.le_succ _), h.objs.size, hget, Heap.get?_none_of_le (Nat.le_refl _), ?_⟩) (fun r s' hr => ?_) fun _ _ x => x))
  · exact Heap.get?_push_of_some _ (Heap.get?_push_at rfl rfl)
  · obtain ⟨rfl, hQ⟩ := hr
    wp_walk
    exact hQ
theorem xc_call (F : ExcBaseFacts B newId initId bmB) (T : OwnTail h bmB bm) {mN : Str → Option Value} {rest : List Value} {fI : Addr} {oI : Obj} {Q : Value → Shared → Prop}
    (hC : h.get? C = some (excClassObj nm q C N bs bm hdct sn sub ab col dd k0 k1 k2 k3 k5 newId)) (hn : h.Ns N mN) (hi : mN "__init__" = some (.ref fI))
    (hfI : h.get? fI = some oI) (hfc : oI.cls = .type "function")
    (hq : ∀ h' e, Heap.MadeExcOf h h' e (.ref C) rest →
      wpAny (model prog w) (A.under (.builtin "type.__call__" ⟨.ref C :: rest, []⟩)) (call (.ref fI) (.ref e :: rest)) (fun r s' => r = .none ∧ Q (.ref e) s') E ⟨h', g, d, t, os⟩) (hrest : rest.length ≤ sizeLine := by size_fits) :
    wpAny (model prog w) A (call (.ref C) rest) Q E ⟨h, g, d, t, os⟩ := by
  have f1 := tc_lookup
  have f2 := tc_bind (.ref C)
  have hT : (⟨h, g, d, t, os⟩ : Shared).TypeIs (.ref C) "type" := ⟨_, hC, rfl⟩
  refine wpAny_call (codeAny_of_tree ?_)
  show wpAny _ _ (callAny (.ref C) _) _ _ _
  repeat (any_goals (first | assumption | with_reducible refine wpAny_loadPart_at hC ?_ | wp_step))
  refine ⟨rfl, ?_⟩
  refine codeAny_call_builtin_at (Code.quiet_builtin _ (by decide +kernel)) entry_typeCall (wpAny_check_type_call_sub hC (xc_type_call (hrest := hrest) F T hC hn hi hfI hfc fun h' e hm => ?_))
  exact hq h' e hm
end
end PySem
namespace PySem.W
open PySem PySem.Spec PySem.Calls PyProof.Rows Builtin Builtin.ObjectAttr
/-! an own exception class in the written part -/
def bmVE : List Value := [.type "ValueError", .type "Exception", .type "BaseException", .type "object"]
def refsVE : List Value → Bool
  | .ref _ :: r => refsVE r
  | l => l == bmVE
def xcIn (K : Frag) (C : Addr) (ini : Option Addr) : Bool := match K.lookup C with
  | some ⟨.type "type", _, .cls cd, sl⟩ => (match cd.mro, sl.toList with
    | .ref C' :: bm, [_, _, _, _, some (.builtin n), _] => C' == C && n == "ValueError.__new__" && !cd.hasDel && cd.hasDict && tailIn K bmVE bm && refsVE bm && nsOkIn K cd.ns && nsIn K cd.ns "__init__" == some (ini.map .ref)
    | _, _ => false)
  | _ => false
structure XcAt (h : Heap) (C : Addr) (ini : Option Addr) : Prop where
  ex : ∃ nm q N bs bm sn sub ab col dd k0 k1 k2 k3 k5 mN, h.get? C = some (excClassObj nm q C N bs bm true sn sub ab col dd k0 k1 k2 k3 k5 "ValueError.__new__") ∧ h.Ns N mN ∧ mN "__init__" = ini.map .ref ∧ OwnTail h bmVE bm ∧ refsVE bm = true
theorem nsMap_some_of_in {K : Frag} {h : Heap} {N : Addr} {x : Str} {v : Value} (X : K.In h) (e : nsOkIn K N = true) (q : nsIn K N x = some (some v)) : h.nsMap N x = some v := by
  have G : h.Ns N (h.nsMap N) := .of_isNs (isNs_of_in X e)
  obtain ⟨o, es, ep, ho, hd, _, hf⟩ := G
  unfold nsIn at q
  split at q
  · rename_i c d es' n' sl q'
    have := X _ _ q'
    rw [ho] at this
    cases this
    cases hd
    split at q
    · rename_i en he
      cases q
      rw [← hf]
      unfold nsFind findBy
      rw [← Array.find?_toList, he]
      rfl
    · split at q <;> cases q
  · cases q
theorem xc_of {K : Frag} {h : Heap} {C : Addr} {ini : Option Addr} (X : K.In h) (q : xcIn K C ini = true) : XcAt h C ini := by
  unfold xcIn at q
  split at q
  · rename_i dd cd sl ho
    split at q
    · rename_i C' bm k0 k1 k2 k3 n k5 hm hs
      simp only [Bool.and_eq_true, beq_iff_eq, Bool.not_eq_true'] at q
      obtain ⟨⟨⟨⟨⟨⟨⟨rfl, rfl⟩, hdel⟩, hdc⟩, ht⟩, hr⟩, hok⟩, hni⟩ := q
      obtain ⟨nm, bs, mro, ns, qn, hd, sn, sub, ab, col, del⟩ := cd
      dsimp only at hm hdel hok hni hdc
      subst hm hdel hdc
      have hsl : sl = #[k0, k1, k2, k3, some (.builtin "ValueError.__new__"), k5] := by
        obtain ⟨l⟩ := sl
        simp only at hs
        rw [hs]
      subst hsl
      refine ⟨nm, qn, ns, bs, bm, sn, sub, ab, col, dd, k0, k1, k2, k3, k5, _, X _ _ ho, .of_isNs (isNs_of_in X hok), ?_, tail_of_in X ht, hr⟩
      cases ini with
      | none => exact nsMap_none_of_in X hok hni
      | some f => exact nsMap_some_of_in X hok hni
    · cases q
  · cases q
theorem fn_obj {K : Frag} {h : Heap} {f : Addr} (X : K.In h) (e : isFn K (.ref f) = true) : ∃ o, h.get? f = some o ∧ o.cls = .type "function" := by
  have e' : typeIn K (.ref f) = some (.type "function") := beq_iff_eq.mp e
  obtain ⟨o, ho, z⟩ := Option.map_eq_some_iff.mp e'
  exact ⟨o, X _ _ ho, z⟩
theorem refuse_refs (self : Value) : ∀ {l : List Value}, refsVE l = true → refuseLoop self "__setattr__" l = pure ()
  | [], e => by cases e
  | .ref c :: r, e => by rw [refuseLoop_ref]; exact refuse_refs self (l := r) e
  | .type n :: r, e => by rw [show (Value.type n :: r) = bmVE from beq_iff_eq.mp e]; exact PySem.F.store_ValueError.passes self
  | .none :: r, e => by cases (beq_iff_eq.mp e)
  | .bool _ :: r, e => by cases (beq_iff_eq.mp e)
  | .int _ _ :: r, e => by cases (beq_iff_eq.mp e)
  | .float _ _ :: r, e => by cases (beq_iff_eq.mp e)
  | .str _ _ :: r, e => by cases (beq_iff_eq.mp e)
  | .bytes _ _ :: r, e => by cases (beq_iff_eq.mp e)
  | .builtin _ :: r, e => by cases (beq_iff_eq.mp e)
end PySem.W
namespace PySem.W
open PySem PySem.Spec PySem.Calls PyProof.Rows Builtin Builtin.ObjectAttr
section
variable {prog : Program} {w : World} {A : Around} {K : Frag} {C x : Addr} {s : Shared} {R : Result → Shared → Prop}
theorem xsa_open {ox : Obj} {od : Option Obj} {name : Str} {tk : Tok} {v : Value} {ini : Option Addr} (X : K.In s.heap) (I : InstAt s.heap x ox C od) (hx : xcIn K C ini = true) (ht : findIn K (.ref C) name = some none)
    (h : ∀ b, wpAny (model prog w) A.in1 (storeInOwnDict (.ref x) (.ref C) (.str name tk) name v b)
      (fun fin s' => match fin with | .done f => R (.ok f) s' | .again c' => c'.quiet = true ∧ codeAny (model prog w) A c' R s') (fun e s' => R (.error e) s') s) :
    codeAny (model prog w) A (.call (.builtin "object.__setattr__") ⟨[.ref x, .str name tk, v], []⟩) R s := by
  have SF := PySem.F.store_object
  obtain ⟨nm, q, N, bs, bm, sn, sub, ab, col, dd, k0, k1, k2, k3, k5, mN, hC, _, _, T, hr⟩ := (xc_of X hx).ex
  have hm : Looks (model prog w) s.heap (mroOf (.ref C)) (.ref C :: bm) := fun A' Q' E' s' k z => by
    obtain ⟨h0, g, d, t, os⟩ := s'
    exact wpAny_mroOf_exc (k _ _ hC) z
  have hob : (Value.ref C :: bm).contains (.type "object") = true := by rw [List.contains_cons, T.hasType (X := "object") (b := true) (by decide +kernel), Bool.or_true]
  have sub : Looks (model prog w) s.heap (isInstance (.ref x) (.type "object")) true := I.type.andThen (fun A' Q' E' s' k z => by
    obtain ⟨h0, g, d, t, os⟩ := s'
    exact wpAny_isSubtype_exc (k _ _ hC) (by rw [hob]; exact z))
  refine codeAny_call_builtin SF.slot.plain SF.entry (@check_slot (model prog w) _ _ s "object.__setattr__" "object" "__setattr__" (.ref x) [.str name tk, v] [] _ SF.kind SF.split sub (SF.args (.ref x) (.str name tk) v) ?_)
  rw [osa_eq, refuse_eq]
  refine wpAny_bind (wpAny_bind (I.type.here (wpAny_bind (hm.here ?_))))
  rw [refuseLoop_ref, refuse_refs _ hr]
  refine wpAny_pure (wpAny_bind (I.type.here (wpAny_bind ((looks_findIn X ht).here (wpAny_bind (wpAny_pure ?_))))))
  exact h _
theorem xset {E : Value → Shared → Prop} {vs : Array Value} {name : Str} {v : Value} {ini : Option Addr} {Q : Unit → Shared → Prop} (X : K.In s.heap) (hx : s.heap.get? x = some { cls := .ref C, data := .fields vs }) (hi : xcIn K C ini = true)
    (hs : findIn K (.ref C) "__setattr__" = some (some (.builtin "object.__setattr__"))) (ht : findIn K (.ref C) name = some none)
    (h : ∀ h', h'.get? x = some { cls := .ref C, dict := some s.heap.objs.size, data := .fields vs } → h'.Ns1 s.heap.objs.size (fun y => if y = name then some v else none) → s.heap.objs.size ≤ h'.objs.size →
      (∀ b o, b ≠ x → s.heap.get? b = some o → h'.get? b = some o) → Q () { s with heap := h', toks := s.toks + 2 }) :
    wpAny (model prog w) A (setAttr (.ref x) name v) Q E s := by
  have I : InstAt s.heap x { cls := .ref C, data := .fields vs } C none := ⟨hx, rfl, rfl, True.intro⟩
  obtain ⟨nm, q, N, bs, bm, sn, sub, ab, col, dd, k0, k1, k2, k3, k5, mN, hC, _, _, T, hr⟩ := (xc_of X hi).ex
  refine set_plain X I hs (xsa_open (s := { s with toks := s.toks + 1 }) X I hi ht fun b => ?_)
  have hcd : Looks (model prog w) s.heap (classData C) { name := nm, bases := bs, mro := .ref C :: bm, ns := N, qualname := q, hasDict := true, slotNames := sn, subclasses := sub, abstract := ab, collection := col, hasDel := false } := (Looks.ld (part := none) hC).andThen .now
  refine wpAny_bind (wpAny_pure (wpAny_bind (wpAny_bind (wpAny_loadPart hx (wpAny_bind (Looks.here (s := { s with toks := s.toks + 1 }) hcd ?_))))))
  have hxs : x ≠ s.heap.objs.size := Nat.ne_of_lt (Heap.lt_size hx)
  have hx₁ : (s.heap.push { cls := .type "dict", data := .dict #[] }).get? x = some { cls := .ref C, data := .fields vs } := Heap.get?_push_of_some _ hx
  refine wpAny_bind (wpAny_alloc' ?_)
  refine wpAny_bind (wpAny_update' hx₁ ?_)
  refine wpAny_pure ?_
  have hgd : ((s.heap.push { cls := .type "dict", data := .dict #[] }).update x fun o => { cls := o.cls, dict := some s.heap.objs.size, data := o.data, slots := o.slots }).get? s.heap.objs.size
      = some { cls := .type "dict", data := .dict #[] } :=
    (Heap.get?_update_ne _ _ _ _ hxs.symm).trans (Heap.get?_push_at rfl rfl)
  have hnd : ((s.heap.push { cls := .type "dict", data := .dict #[] }).update x fun o => { cls := o.cls, dict := some s.heap.objs.size, data := o.data, slots := o.slots }).Ns s.heap.objs.size (fun _ => none) :=
    ⟨_, #[], _, hgd, rfl, fun e he => absurd he (by simp), fun _ => rfl⟩
  show wpAny _ _ (storeInDict s.heap.objs.size (.str name _) name v) _ _ _
  unfold storeInDict newKeyGuard
  refine wpAny_bind (wpAny_pure (wpAny_bind (wpAny_nsSet1 (Heap.Ns1.of_empty hnd) fun h' hn' hs' => ?_)))
  obtain ⟨oD, esD, epD, hoD, hdD, hcD⟩ := hn'.count (Within.cons name v Within.nil)
  refine wpAny_bind (wpAny_lookBehind hoD (by rw [hdD]; exact pastItsLine_dict (Nat.le_trans hcD (by rw [List.length_cons, List.length_nil, sizeLine_eq]; omega))) ?_)
  refine wpAny_pure (h h' ?_ hn' ?_ fun b o hb e => ?_)
  · exact (hs'.2 x hxs).trans (Heap.get?_update_self _ hx₁ rfl)
  · have := Heap.lt_size hoD
    exact Nat.le_of_lt this
  · exact (hs'.2 b (Nat.ne_of_lt (Heap.lt_size e))).trans ((Heap.get?_update_ne _ _ _ _ hb).trans (Heap.get?_push_of_some _ e))
end
end PySem.W
namespace PySem.W
open PySem PySem.Spec PySem.Calls PyProof.Rows Builtin Builtin.ObjectAttr
theorem xga_kind : builtinKind "BaseException.__getattribute__" = some .slot := by decide +kernel
theorem xga_split : splitId "BaseException.__getattribute__" = some ("BaseException", "__getattribute__") := by decide +kernel
theorem xga_plain : plainId "BaseException.__getattribute__" = true := PySem.F.excAttr_ValueError.ga.plain
theorem xga_eq0(self : Value) (name : Str) (tk : Tok):∃ f:Value→_,Builtin.«object.__getattribute__» ⟨[self, .str name tk], []⟩ = (typeOf self >>= fun tp => find self tp name >>= fun r => match r with
  | .value v => ret v
  | .bind g a => bindTo g a self tp
  | .missing =>f tp):=⟨_,rfl⟩
theorem xga_eq(self : Value) (name : Str) (tk : Tok):Builtin.«object.__getattribute__» ⟨[self, .str name tk], []⟩ = (typeOf self >>= fun tp => find self tp name >>= fun r => match r with
  | .value v => ret v
  | .bind g a => bindTo g a self tp
  | .missing =>(xga_eq0 self name tk).choose tp):=(xga_eq0 self name tk).choose_spec
section
variable {prog : Program} {w : World} {A : Around} {K : Frag} {C x : Addr} {s : Shared} {ox : Obj} {od : Option Obj} {name : Str} {ini : Option Addr}
theorem xbase (X : K.In s.heap) (I : InstAt s.heap x ox C od) (hi : xcIn K C ini = true) : Looks (model prog w) s.heap (isInstance (.ref x) (.type "BaseException")) true := by
  obtain ⟨nm, q, N, bs, bm, sn, sub, ab, col, dd, k0, k1, k2, k3, k5, mN, hC, _, _, T, hr⟩ := (xc_of X hi).ex
  have hob : (Value.ref C :: bm).contains (.type "BaseException") = true := by rw [List.contains_cons, T.hasType (X := "BaseException") (b := true) (by decide +kernel), Bool.or_true]
  exact I.type.andThen (fun A' Q' E' s' k z => by
    obtain ⟨h0, g, d, t, os⟩ := s'
    exact wpAny_isSubtype_exc (k _ _ hC) (by rw [hob]; exact z))
theorem xga_open {R : Result → Shared → Prop} {tk : Tok} {r : Found} (X : K.In s.heap) (I : InstAt s.heap x ox C od) (hi : xcIn K C ini = true) (hf : findObj K C od name = some r)
    (h : wpAny (model prog w) A.in1 (match r with | .value v => ret v | .bind g a => bindTo g a (.ref x) (.ref C) | .missing => noSuchAttribute (.ref x) name) (fun fin s' => match fin with | .done f => R (.ok f) s' | .again c' => c'.quiet = true ∧ codeAny (model prog w) A c' R s') (fun e s' => R (.error e) s') s)
    (hm : r ≠ .missing) :
    codeAny (model prog w) A (.call (.builtin "BaseException.__getattribute__") ⟨[.ref x, .str name tk], []⟩) R s := by
  refine codeAny_call_builtin xga_plain PySem.F.entry_bexc_ga (@check_slot (model prog w) _ _ s "BaseException.__getattribute__" "BaseException" "__getattribute__" (.ref x) [.str name tk] [] _ xga_kind xga_split (xbase X I hi) (PySem.F.args_bexc_ga (.ref x) (.str name tk)) ?_)
  rw [xga_eq]
  refine wpAny_bind (I.type.here (wpAny_bind ((looks_find X I hf).here ?_)))
  cases r with
  | value v => exact h
  | bind g a => exact h
  | missing => exact absurd rfl hm
theorem xget_by {E : Value → Shared → Prop} {tk : Tok} {fill expr : Bool} {Q : Value → Shared → Prop} (X : K.In s.heap) (I : InstAt s.heap x ox C od)
    (hga : findIn K (.ref C) "__getattribute__" = some (some (.builtin "BaseException.__getattribute__"))) (hgn : findIn K (.ref C) "__getattr__" = some none)
    (h : codeAny (model prog w) A (.call (.builtin "BaseException.__getattribute__") ⟨[.ref x, .str name tk], []⟩) (fun r s' => match r with | .ok (.ret v) => wpAny (model prog w) A (handedOut v) Q E s' | _ => False) s) :
    wpAny (model prog w) A (getAttrBy (.ref x) (.str name tk) fill expr) Q E s := by
  have f3 := PySem.F.excAttr_ValueError.ga.bind (.ref x)
  have hx0 : (expr && onTheHeap (Value.builtin "BaseException.__getattribute__")) = false := by cases expr <;> rfl
  have hx2 : (Value.builtin "BaseException.__getattribute__" == Value.builtin "object.__getattribute__") = false := by decide +kernel
  have hx1 : (onTheHeap (Value.ref C) && Value.builtin "BaseException.__getattribute__" == Value.builtin "object.__getattribute__") = false := by rw [hx2]; rfl
  unfold getAttrBy
  refine wpAny_holding (wpAny_bind (I.type.here (wpAny_bind ((looks_findIn X hga).here ?_))))
  dsimp only
  rw [hx1, if_neg Bool.false_ne_true]
  unfold getAttrByItsOwn hookBefore
  refine wpAny_bind ?_
  rw [if_pos (show onTheHeap (Value.ref C) = true from rfl)]
  refine (looks_findIn X hgn).here (wpAny_bind (wpAny_attempt (wpAny_holding ?_)))
  unfold callGetattribute
  rw [hx0, if_neg Bool.false_ne_true]
  unfold boundAndCalled
  rw [f3]
  refine wpAny_bind (wpAny_pure (wpAny_call (codeAny_mono h fun r s' z => ?_)))
  rcases r with e | (v | _ | _ | _) <;> first | exact z | exact z.elim
theorem xget {E : Value → Shared → Prop} {expr : Bool} {v : Value} {Q : Value → Shared → Prop} (X : K.In s.heap) (I : InstAt s.heap x ox C od) (hi : xcIn K C ini = true)
    (hga : findIn K (.ref C) "__getattribute__" = some (some (.builtin "BaseException.__getattribute__"))) (hgn : findIn K (.ref C) "__getattr__" = some none)
    (hf : findObj K C od name = some (.value v)) (hh : handedIn v = true) (h : Q v { s with toks := s.toks + 1 }) : wpAny (model prog w) A (getAttr (.ref x) name expr) Q E s := by
  unfold getAttr
  refine wpAny_bind (wpAny_mkText ?_)
  refine xget_by (s := { s with toks := s.toks + 1 }) X I hga hgn (xga_open (s := { s with toks := s.toks + 1 }) X I hi hf (wpAny_pure ?_) (by intro z; cases z))
  show wpAny _ _ (handedOut v) _ _ _
  rw [handedOut_of hh]
  exact wpAny_pure h
theorem xclass {E : Value → Shared → Prop} {Q : Option Value → Shared → Prop} (X : K.In s.heap) (I : InstAt s.heap x ox C od) (hi : xcIn K C ini = true)
    (hga : findIn K (.ref C) "__getattribute__" = some (some (.builtin "BaseException.__getattribute__"))) (hgn : findIn K (.ref C) "__getattr__" = some none)
    (hdct : hasDictIn K C = true) (ha : findIn K (.ref C) "__class__" = some (some (.builtin "object.__class__")))
    (hn : specialIn K (.builtin "object.__class__") "__get__" = some (some (.builtin "getset_descriptor.__get__"))) (htk : takesIn K (.builtin "object.__class__") = some true) (hm : mroIn K C (.type "object") = some true)
    (h : Q (some (.ref C)) { s with toks := s.toks + 1 }) : wpAny (model prog w) A (getAttr? (.ref x) "__class__") Q E s := by
  have hf : findObj K C od "__class__" = some (.bind (.builtin "getset_descriptor.__get__") (.builtin "object.__class__")) := by
    obtain ⟨cd, hc, _⟩ := any_some hdct
    unfold findObj
    rw [hc, Option.bind_some, ha, Option.bind_some]
    dsimp only
    rw [hn, Option.bind_some]
    dsimp only
    rw [htk, Option.bind_some]
  unfold getAttr?
  refine wpAny_bind (wpAny_mkText ?_)
  unfold getAttrBy?
  refine wpAny_bind (wpAny_attempt (xget_by (s := { s with toks := s.toks + 1 }) X I hga hgn (xga_open (s := { s with toks := s.toks + 1 }) X I hi hf ?_ (by intro z; cases z))))
  show wpAny _ _ (holding [_] (call (.builtin "getset_descriptor.__get__") [.builtin "object.__class__", .ref x, .ref C]) >>= ret) _ _ _
  refine wpAny_bind (wpAny_holding (wpAny_call (class_get (s := { s with toks := s.toks + 1 }) X I hm (wpAny_pure ?_))))
  show wpAny _ _ (handedOut (.ref C)) _ _ _
  rw [handedOut_of rfl]
  exact wpAny_pure (wpAny_pure h)
theorem kitx_exc (hi : xcIn K C ini = true)
    (hga : findIn K (.ref C) "__getattribute__" = some (some (.builtin "BaseException.__getattribute__"))) (hgn : findIn K (.ref C) "__getattr__" = some none)
    (hdct : hasDictIn K C = true) (ha : findIn K (.ref C) "__class__" = some (some (.builtin "object.__class__")))
    (hn : specialIn K (.builtin "object.__class__") "__get__" = some (some (.builtin "getset_descriptor.__get__"))) (htk : takesIn K (.builtin "object.__class__") = some true) (hm : mroIn K C (.type "object") = some true) :
    KitX K (.ref x) (.ref C) (fun h => InstAt h x ox C od) where
  ty := fun _ _ _ I => I.type
  it := fun _ _ X _ => by
    obtain ⟨cdD, hcD, _⟩ := any_some hdct
    unfold clsIn at hcD
    split at hcD
    · rename_i c' d' cd' sl' ho
      intro A' Q' E' s' k q
      unfold isType loadHead
      exact wpAny_bind (wpAny_loadPart (k _ _ (X _ _ ho)) (wpAny_pure q))
    · cases hcD
  ne := fun h tp dd its n sl X htp => by
    obtain ⟨cdD, hcD, _⟩ := any_some hdct
    refine Bool.eq_false_iff.mpr fun q => ?_
    have e : C = tp := Value.ref.inj (beq_iff_eq.mp q)
    subst e
    unfold clsIn at hcD
    split at hcD
    · rename_i c' d' cd' sl' ho
      have z := (X _ _ ho).symm.trans htp
      cases z
    · cases hcD
  ca := fun X I k => xclass X I hi hga hgn hdct ha hn htk hm k
theorem xmatch {M : Model} {E : Value → Shared → Prop} {D : Addr} {b : Bool} {Q : Bool → Shared → Prop} (X : K.In s.heap) (I : InstAt s.heap x ox C od) (hd : mroIn K D (.type "BaseException") = some true)
    (hty : typeIn K (.ref D) = some (.type "type")) (hm : mroIn K C (.ref D) = some b) (h : Q b s) : wpAny M A (excMatches (.ref x) (.ref D)) Q E s := by
  have f := tc_notTuple
  have l1 := looks_typeIn (M := M) X hty
  have l2 := looks_mroIn (M := M) X hd
  have l3 := looks_mroIn (M := M) X hm
  have l4 := I.type (M := M)
  obtain ⟨cd, hcd⟩ : ∃ cd, clsIn K D = some cd := by
    unfold mroIn at hd
    cases q : clsIn K D with
    | none => rw [q] at hd; cases hd
    | some cd => exact ⟨cd, rfl⟩
  have l5 : Looks M s.heap (isType (.ref D)) true := by
    unfold clsIn at hcd
    split at hcd
    · rename_i c' d' cd' sl' ho
      intro A' Q' E' s' k q
      unfold isType loadHead
      exact wpAny_bind (wpAny_loadPart (k _ _ (X _ _ ho)) (wpAny_pure q))
    · cases hcd
  unfold excMatches isInstance
  refine wpAny_bind (wpAny_bind (l1.here ?_))
  rw [f]
  refine wpAny_pure (wpAny_bind (wpAny_pure ?_))
  simp only [List.forIn_cons, List.forIn_nil]
  have l6 : Looks M s.heap (isExcClass (.ref D)) true := l5.andThen (by rw [if_pos rfl]; exact l2)
  refine wpAny_bind (wpAny_bind (wpAny_bind (l6.here ?_)))
  simp only [Bool.not_true, Bool.false_eq_true, if_false]
  refine wpAny_pure (wpAny_pure (wpAny_bind (l4.here (wpAny_bind (wpAny_bind (wpAny_bind (l3.here ?_)))))))
  cases b with
  | true => exact wpAny_pure (wpAny_pure (wpAny_pure h))
  | false => exact wpAny_pure (wpAny_pure (wpAny_pure h))
end
end PySem.W

set_option Elab.async false
set_option linter.all false
set_option maxRecDepth 100000
set_option maxHeartbeats 4000000
namespace L2
open PySem PySem.Spec PyProof.Rows
/-! ## exceptions: the object, its dict -/
abbrev xobj (C : Addr) (dx : Option Addr) (vs : Array Value) : Obj := { cls := .ref C, dict := dx, data := .fields vs }
def XcO (a C : Addr) (dx : Option Addr) (vs : Array Value) : HO := .ext fun h => h.get? a = some (xobj C dx vs)
theorem xco_ok {P : Program} {w : World} {H : Hp} {h : Heap} {a C : Addr} {dx : Option Addr} {vs : Array Value} (e : h.get? a = some (xobj C dx vs)) : ObjOk P w H h a (XcO a C dx vs) := ⟨e, ⟨_, e⟩, fun h1 h2 p k => k _ p⟩
theorem xco_get {P : Program} {w : World} {H : Hp} {h : Heap} {a C : Addr} {dx : Option Addr} {vs : Array Value} (hok : HOk P w H h) (e : H a = some (XcO a C dx vs)) : h.get? a = some (xobj C dx vs) := (show ObjOk P w H h a (XcO a C dx vs) from hok a _ e).1
structure XCls (K : PySem.W.Frag) (C : Addr) : Prop where
  xc : ∃ ini, PySem.W.xcIn K C ini = true
  sa : PySem.W.findIn K (.ref C) "__setattr__" = some (some (.builtin "object.__setattr__"))
  ga : PySem.W.findIn K (.ref C) "__getattribute__" = some (some (.builtin "BaseException.__getattribute__"))
  gn : PySem.W.findIn K (.ref C) "__getattr__" = some none
  hd : PySem.W.hasDictIn K C = true
  cl : PySem.W.findIn K (.ref C) "__class__" = some (some (.builtin "object.__class__"))
  cg : PySem.W.specialIn K (.builtin "object.__class__") "__get__" = some (some (.builtin "getset_descriptor.__get__"))
  ct : PySem.W.takesIn K (.builtin "object.__class__") = some true
  mo : PySem.W.mroIn K C (.type "object") = some true
section
variable {X : Cx} {pins : List (Addr × Obj)} {σ : St} {H : Hp} {s : Shared}
theorem Inv.inst (I : Inv X pins σ H s) {a C : Addr} {dx : Option Addr} {vs : Array Value} (e : H a = some (XcO a C dx vs)) (hd : ∀ d, dx = some d → ∃ fs, H d = some (.xd fs)) : ∃ od, PySem.W.InstAt s.heap a (xobj C dx vs) C od := by
  have g := xco_get I.hok e
  cases dx with
  | none => exact ⟨none, g, rfl, rfl, True.intro⟩
  | some d =>
    obtain ⟨fs, hf⟩ := hd d rfl
    obtain ⟨mA, ⟨o, es, ep, ho, _⟩, _⟩ := (show ObjOk X.prog X.w H s.heap d (.xd fs) from I.hok d _ hf)
    exact ⟨some o, g, rfl, rfl, ho⟩
structure IsX (K : PySem.W.Frag) (H : Hp) (a C : Addr) : Prop where
  cls : XCls K C
  at_ : ∃ dx vs, H a = some (XcO a C dx vs) ∧ ∀ d, dx = some d → ∃ fs, H d = some (.xd fs)
def tXFld (K : PySem.W.Frag) (ta : TE) (f : Str) : TE := fun σ H Q => ta σ H fun x H1 => ∃ a C d vs fs v, x = .ref a ∧ H1 a = some (XcO a C (some d) vs) ∧ H1 d = some (.xd fs) ∧ XCls K C ∧ NoAttr K C f ∧ fs.lookup f = some v ∧ Q v H1
theorem pe_xfld {e : Expr} {f : Str} {pos : Pos} {ta : TE} (he : PE X e ta) (hb : attributeBase e f X.env (eval e X.env) = eval e X.env) : PE X (.Attribute e f pos) (tXFld X.K ta f) := by
  with_unfolding_all
    intro pins s σ H Q I h
    refine attr_of hb (thn (he pins s σ H _ I h) fun u s1 ⟨x, H1, I1, rx, a, C, d, vs, fs, v, ex, ea, ed, c, n, l, q⟩ => ?_)
    subst ex
    obtain rfl : u = Value.ref a := rx
    obtain ⟨mA, ns, r⟩ := (show ObjOk X.prog X.w H1 s1.heap d (.xd fs) from I1.hok d _ ed)
    obtain ⟨od, ho, hl⟩ := lookIn_ns ns
    have J : PySem.W.InstAt s1.heap a (xobj C (some d) vs) C (some od) := ⟨xco_get I1.hok ea, rfl, rfl, ho⟩
    obtain ⟨u, hu, ru⟩ := RelO.some_of (v := v) (o := mA f) (by rw [← l]; exact r f)
    obtain ⟨ini, hi⟩ := c.xc
    exact PySem.W.xget I1.kIn J hi c.ga c.gn (PySem.W.findObj_own c.hd n rfl (by rw [hl, hu])) (handed_of ru) ⟨v, H1, I1.tok _, ru, q⟩
def sXFld (K : PySem.W.Frag) (ta tv : TE) (f : Str) : TS := fun D σ H => tv σ H fun y H1 => ta σ H1 fun x H2 => ∃ a C vs, x = .ref a ∧ H2 a = some (XcO a C none vs) ∧ XCls K C ∧ NoAttr K C f ∧
  ∀ d H3, (∀ b o, b ≠ a → H2 b = some o → H3 b = some o) → H2 d = none → H3 a = some (XcO a C (some d) vs) → H3 d = some (.xd [(f, y)]) → D.nx σ H3
theorem ps_xfld {o value : Expr} {f : Str} {pos pos' : Pos} {ta tv : TE} (ha : PE X o ta) (hv : PE X value tv) (hs : swapsWith value (some (.Attribute o f pos')) pos.line X.env = pure false) : PS X (.Assign [.Attribute o f pos'] value pos) (sXFld X.K ta tv f) := by
  with_unfolding_all
    intro pins s σ H D I h
    refine plainObj_wpAny_Assign_Attribute (thn (hv pins s σ H _ I h) fun u s1 ⟨y, H1, I1, ry, q⟩ => thn (ha pins s1 σ H1 _ I1 q) fun ov s2 ⟨x, H2, I2, rx, a, C, vs, ex, ea, c, n, q2⟩ => ?_) hs
    subst ex
    obtain rfl : ov = Value.ref a := rx
    obtain ⟨ini, hi⟩ := c.xc
    have ga := xco_get I2.hok ea
    have hd : H2 s2.heap.objs.size = none := I2.hok.fresh (Nat.le_refl _)
    have nda : s2.heap.objs.size ≠ a := Nat.ne_of_gt (Heap.lt_size ga)
    refine PySem.W.xset I2.kIn ga hi c.sa n fun h' g1 g2 g3 g4 => ?_
    -- the new dict, then the exception's own object
    have hok : HOk X.prog X.w (upd (upd H2 s2.heap.objs.size (.xd [(f, y)])) a (XcO a C (some s2.heap.objs.size) vs)) h' := by
      intro b ob e
      by_cases hba : b = a
      · subst hba
        rw [upd_same] at e
        cases e
        exact xco_ok g1
      · rw [upd_ne hba] at e
        by_cases hbd : b = s2.heap.objs.size
        · subst hbd
          rw [upd_same] at e
          cases e
          refine ⟨_, g2, fun z => ?_⟩
          show RelO (([(f, y)] : List (Str × V)).lookup z) (if z = f then some u else none)
          by_cases hz : z = f
          · subst hz
            simp only [List.lookup, beq_self_eq_true, if_true]
            exact ry
          · have : (z == f) = false := by simpa using hz
            simp only [List.lookup, this, if_neg hz]
            exact True.intro
        · rw [upd_ne hbd] at e
          refine (I2.hok b ob e).stay (fun c' v hc' r => g4 c' v ?_ r) (fun c' r => ?_) (fun c' xs r => ?_) fun c' ob xs r => ?_
          · rintro rfl
            rcases hc' with z | z
            · exact hba z.symm
            · rw [ea] at z
              cases z
          · rw [upd_ne (fun z => by subst z; rw [ea] at r; cases r), upd_ne (ne_of_none r hd)]
            exact r
          · rw [upd_ne (fun z => by subst z; rw [ea] at r; cases r), upd_ne (ne_of_none r hd)]
            exact r
          · rw [upd_ne (fun z => by subst z; rw [ea] at r; cases r), upd_ne (ne_of_none r hd)]
            exact r
    have un : Un X.fs [] H2 (upd (upd H2 s2.heap.objs.size (.xd [(f, y)])) a (XcO a C (some s2.heap.objs.size) vs)) s2.heap h' := by
      have na : ∀ b, H2 b = none → b ≠ a := fun b n z => by subst z; rw [ea] at n; cases n
      refine ⟨fun b o e n _ _ => g4 b o (na b n) e, fun b o e n _ _ => ⟨o.slots, g4 b o (na b n) e⟩, fun b o e n _ => ?_, fun b o e _ => ?_, fun b xs e => ?_, fun b o' u' e => ?_, fun b lp lq e => ?_⟩
      · rw [upd_ne (na b n), upd_ne (Nat.ne_of_lt (Heap.lt_size e))]
        exact n
      · by_cases hb : b = a
        · subst hb; exact ⟨_, g1⟩
        · exact ⟨o, g4 b o hb e⟩
      · rw [upd_ne (fun z => by subst z; rw [ea] at e; cases e), upd_ne (ne_of_none e hd)]
        exact e
      · rw [upd_ne (fun z => by subst z; rw [ea] at e; cases e), upd_ne (ne_of_none e hd)]
        exact e
      · rw [upd_ne (fun z => by subst z; rw [ea] at e; cases e), upd_ne (ne_of_none e hd)]
        exact e
    refine ⟨σ, _, I2.un un hok, q2 s2.heap.objs.size _ (fun b ob hb e => ?_) hd upd_same ?_⟩
    · rw [upd_ne hb, upd_ne (ne_of_none e hd)]
      exact e
    · rw [upd_ne nda]
      exact upd_same
end
end L2

set_option Elab.async false
set_option linter.all false
set_option maxRecDepth 100000
set_option maxHeartbeats 4000000
namespace PySem
open L2 (xobj)
/-! ## an exception's way through frames: its object is known whole -/
def Heap.XFly (h base : Heap) (e C : Addr) (dx : Option Addr) (T : Addr) (fl : Value) : Prop :=
  ∃ vs oT ts, h.get? e = some (xobj C dx vs) ∧ vs[1]? = some (.ref T) ∧ base.get? T = none ∧ T ≠ e ∧ h.get? T = some oT ∧ oT.data = .fields ts ∧ ts[3]? = some fl
def Heap.XAt (base : Heap) (l : List Env) (e C : Addr) (dx : Option Addr) (T : Addr) (fl : Value) (h : Heap) : Prop :=
  base.StaysIn h ∧ base.get? e = none ∧ h.FunFrames base l ∧ h.XFly base e C dx T fl
section
variable {M : Model} {A : Around} {E : Value → Shared → Prop} {s : Shared}
theorem x_entry {base : Heap} {env : Env} {outer : List Env} {L e C : Addr} {dx : Option Addr} {vs : Array Value} {head : Value} {hadNext : Bool} {Q : Unit → Shared → Prop}
    (hfr : A.frames = some (env :: outer)) (hl : s.heap.FunFrames base (env :: outer)) (hf : env.frame = some L)
    (he : s.heap.get? e = some (xobj C dx vs)) (hkb : base.StaysIn s.heap) (hen : base.get? e = none) (hsz : 1 < vs.size)
    (h : ∀ h' T', Heap.XAt base (env :: outer) e C dx T' (rawInt L) h' → s.heap.UpToSlots h' → s.heap.objs.size ≤ T' → Q () { s with heap := h' }) :
    wpAny M A (do let a ← frameOf env; let pl ← entryPlaceOf L hadNext; let b ← EntryCells.newEntry head a .none (rawInt L) .none pl; setField (.ref e) 1 b) Q E s := by
  have hd : (xobj C dx vs).data = .fields vs := rfl
  have hene : e ∉ (env :: outer).filterMap (·.frame) := fun hm => by
    obtain ⟨_, o, ho, hnf⟩ := hl.mem hm
    rw [he] at ho; injection ho with ho; subst ho; exact hnf vs hd
  refine wpAny_bind (wpAny_frameOf_fun hfr hl hf fun h₁ hs₁ => ?_)
  refine wpAny_bind (wpAny_entryPlaceOf fun pl hpl => ?_)
  unfold EntryCells.newEntry newFields
  refine wpAny_bind (wpAny_newObj_type ?_ (hpl.sizeOk5 _ _ _ _ _))
  have he₁ : h₁.get? e = some (xobj C dx vs) := (hs₁.2.1 e hene).trans he
  have kb₁ : base.StaysIn h₁ := fun b o hbo => (hs₁.2.1 b fun hm => by rw [(hl.mem hm).1] at hbo; cases hbo).trans (hkb b o hbo)
  have he₂ := Heap.get?_push_of_some (h := h₁) { cls := .type "traceback", dict := none, data := .fields ([head, .ref L, .none, rawInt L, .none] ++ (if pl.isEmpty then List.replicate 6 Value.none else pl)).toArray } he₁
  have hTe : h₁.objs.size ≠ e := Nat.ne_of_gt (Heap.lt_size he₁)
  have hd₃ := Obj.data_mapFields hd (·.setIfInBounds 1 (Value.ref h₁.objs.size))
  have he₃ := Heap.get?_update_self (Obj.mapFields (·.setIfInBounds 1 (Value.ref h₁.objs.size))) he₂ (Obj.isFreed_of_fields hd₃)
  have hT₃ := (Heap.get?_update_other (h₁.push { cls := .type "traceback", dict := none, data := .fields ([head, .ref L, .none, rawInt L, .none] ++ (if pl.isEmpty then List.replicate 6 Value.none else pl)).toArray })
    (Obj.mapFields (·.setIfInBounds 1 (Value.ref h₁.objs.size))) (Ne.symm hTe)).trans (Heap.get?_push_size h₁ rfl)
  have keep : ∀ b o, b ≠ e → h₁.get? b = some o →
      ((h₁.push { cls := .type "traceback", dict := none, data := .fields ([head, .ref L, .none, rawInt L, .none] ++ (if pl.isEmpty then List.replicate 6 Value.none else pl)).toArray }).update e (Obj.mapFields (·.setIfInBounds 1 (Value.ref h₁.objs.size)))).get? b = some o :=
    fun b o hbe hb => by
      rw [Heap.get?_update_other _ _ (Ne.symm hbe)]
      exact Heap.get?_push_of_some _ hb
  have noRecord : ∀ b o, s.heap.get? b = some o → (∀ vs, o.data ≠ .fields vs) → b ≠ e := fun b o hb hnf q => by
    rw [q, he] at hb; injection hb with hb; subst hb; exact hnf vs hd
  refine wpAny_setField he₂ hd hsz (h _ h₁.objs.size ?_ ?_ ?_)
  · refine ⟨fun b o hbo => keep b o (fun q => by rw [q, hen] at hbo; cases hbo) (kb₁ b o hbo), hen, hl.of_keeps fun b o hb hnf => ?_, ?_⟩
    · obtain ⟨sl, hs⟩ := hs₁.2.2 b o hb
      exact ⟨_, keep b _ (noRecord b o hb hnf) hs, rfl⟩
    · exact ⟨_, _, _, he₃, by simp [hsz], kb₁.fresh, hTe, hT₃, rfl, by first | (simp; done) | (rcases hpl with rfl | ⟨_, _, _, _, _, _, _, rfl⟩ <;> simp)⟩
  · intro b o hb hnf
    obtain ⟨sl, hs⟩ := hs₁.2.2 b o hb
    exact ⟨sl, keep b _ (noRecord b o hb hnf) hs⟩
  · rw [hs₁.1]
    exact Nat.le_refl _
theorem x_note_first {base : Heap} {env : Env} {outer : List Env} {L e C : Addr} {dx : Option Addr} {vs : Array Value} {Q : Unit → Shared → Prop}
    (hfr : A.frames = some (env :: outer)) (hl : s.heap.FunFrames base (env :: outer)) (hf : env.frame = some L)
    (he : s.heap.get? e = some (xobj C dx vs)) (hkb : base.StaysIn s.heap) (hen : base.get? e = none) (h1 : vs[1]? = some .none)
    (h : ∀ h' T', Heap.XAt base (env :: outer) e C dx T' (rawInt L) h' → s.heap.UpToSlots h' → s.heap.objs.size ≤ T' → Q () { s with heap := h' }) : wpAny M A (noteFrame (.ref e) env) Q E s := by
  unfold noteFrame
  simp only [hf]
  refine wpAny_bind (wpAny_field he rfl h1 ?_)
  rw [if_neg (by decide)]
  exact x_entry hfr hl hf he hkb hen (Array.getElem?_eq_some_iff.mp h1).1 h
theorem x_note_next {base : Heap} {env : Env} {outer : List Env} {L e C T : Addr} {dx : Option Addr} {Q : Unit → Shared → Prop}
    (hfr : A.frames = some (env :: outer)) (hf : env.frame = some L) (hx : Heap.XAt base (env :: outer) e C dx T .none s.heap)
    (h : ∀ h' T', Heap.XAt base (env :: outer) e C dx T' (rawInt L) h' → s.heap.UpToSlots h' → s.heap.objs.size ≤ T' → Q () { s with heap := h' }) : wpAny M A (noteFrame (.ref e) env) Q E s := by
  obtain ⟨hkb, hen, hl, vs, oT, ts, he, h1, hnT, hTe, hT, hdT, h3⟩ := hx
  unfold noteFrame
  simp only [hf]
  refine wpAny_bind (wpAny_field he rfl h1 ?_)
  rw [if_pos (show (Value.ref T != Value.none) = true from by simp)]
  refine wpAny_bind (wpAny_field hT hdT h3 ?_)
  rw [if_neg (show ¬ ((Value.none == rawInt L) = true) from by simp [rawInt])]
  refine wpAny_bind (wpAny_setField hT hdT (Array.getElem?_eq_some_iff.mp h3).1 ?_)
  have other : ∀ b, b ≠ T → (s.heap.update T (Obj.mapFields (·.setIfInBounds 3 Value.none))).get? b = s.heap.get? b := fun b hb => Heap.get?_update_other _ _ (Ne.symm hb)
  have noRecord : ∀ b o, s.heap.get? b = some o → (∀ vs, o.data ≠ .fields vs) → b ≠ T := fun b o hb hnf q => by
    rw [q, hT] at hb; injection hb with hb; subst hb; exact hnf ts hdT
  refine x_entry hfr (hl.of_keeps fun b o hb hnf => ⟨o, (other b (noRecord b o hb hnf)).trans hb, rfl⟩) hf ((other e (Ne.symm hTe)).trans he)
    (fun b o hbo => (other b fun q => by rw [q, hnT] at hbo; cases hbo).trans (hkb b o hbo)) hen (Array.getElem?_eq_some_iff.mp h1).1
    fun h' T' x1 x2 x3 => h h' T' x1 (fun b o hb hnf => x2 b o ((other b (noRecord b o hb hnf)).trans hb) hnf) (by rw [Heap.size_after_update] at x3; exact x3)
theorem x_flight {base : Heap} {l : List Env} {e C T : Addr} {dx : Option Addr} {fl : Value} {Q : Unit → Shared → Prop} (hx : Heap.XAt base l e C dx T fl s.heap)
    (h : ∀ h', Heap.XAt base l e C dx T .none h' → s.heap.UpToSlots h' → Q () { s with heap := h' }) : wpAny M A (setFlight (.ref e) none) Q E s := by
  obtain ⟨hkb, hen, hl, vs, oT, ts, he, h1, hnT, hTe, hT, hdT, h3⟩ := hx
  have hsz3 : 3 < ts.size := (Array.getElem?_eq_some_iff.mp h3).1
  have other : ∀ b, b ≠ T → (s.heap.update T (Obj.mapFields (·.setIfInBounds 3 ((none : Option Addr).elim Value.none fun f => rawInt f)))).get? b = s.heap.get? b :=
    fun b hb => Heap.get?_update_other _ _ (Ne.symm hb)
  have noRecord : ∀ b o, s.heap.get? b = some o → (∀ vs, o.data ≠ .fields vs) → b ≠ T := fun b o hb hnf q => by
    rw [q, hT] at hb; injection hb with hb; subst hb; exact hnf ts hdT
  unfold setFlight
  refine wpAny_bind (wpAny_field he rfl h1 ?_)
  rw [if_pos (show (Value.ref T != Value.none) = true from by simp)]
  refine wpAny_setField hT hdT hsz3 (h _ ⟨fun b o hbo => (other b fun q => by rw [q, hnT] at hbo; cases hbo).trans (hkb b o hbo), hen,
    hl.of_keeps fun b o hb hnf => ⟨o, (other b (noRecord b o hb hnf)).trans hb, rfl⟩, ?_⟩ (fun b o hb hnf => ⟨o.slots, (other b (noRecord b o hb hnf)).trans hb⟩))
  exact ⟨vs, _, _, (other e (Ne.symm hTe)).trans he, h1, hnT, hTe, Heap.get?_update_self _ hT (Obj.isFreed_of_fields (Obj.data_mapFields hdT _)), Obj.data_mapFields hdT _, by simp [hsz3]⟩
theorem x_leave_next {base : Heap} {env : Env} {outer : List Env} {L e C T : Addr} {dx : Option Addr} {Q : Unit → Shared → Prop}
    (hfr : A.frames = some (env :: outer)) (hf : env.frame = some L) (hx : Heap.XAt base (env :: outer) e C dx T .none s.heap)
    (h : ∀ h' T', Heap.XAt base (env :: outer) e C dx T' .none h' → s.heap.UpToSlots h' → s.heap.objs.size ≤ T' → Q () { s with heap := h' }) : wpAny M A (leaving env (.ref e)) Q E s := by
  unfold leaving
  refine wpAny_bind (x_note_next hfr hf hx fun h1 T' a b c => ?_)
  exact x_flight (s := { s with heap := h1 }) a fun h2 a2 b2 => h h2 T' a2 (b.trans b2) c
theorem x_leave_first {base : Heap} {env : Env} {outer : List Env} {L e C : Addr} {dx : Option Addr} {vs : Array Value} {Q : Unit → Shared → Prop}
    (hfr : A.frames = some (env :: outer)) (hl : s.heap.FunFrames base (env :: outer)) (hf : env.frame = some L)
    (he : s.heap.get? e = some (xobj C dx vs)) (hkb : base.StaysIn s.heap) (hen : base.get? e = none) (h1 : vs[1]? = some .none)
    (h : ∀ h' T', Heap.XAt base (env :: outer) e C dx T' .none h' → s.heap.UpToSlots h' → s.heap.objs.size ≤ T' → Q () { s with heap := h' }) : wpAny M A (leaving env (.ref e)) Q E s := by
  unfold leaving
  refine wpAny_bind (x_note_first hfr hl hf he hkb hen h1 fun h1 T' a b c => ?_)
  exact x_flight (s := { s with heap := h1 }) a fun h2 a2 b2 => h h2 T' a2 (b.trans b2) c
end
end PySem
namespace L2
open PySem PySem.Spec PyProof.Rows
/-! ## the callers' view -/
def apart (X : Cx) (h : Heap) (e : Addr) (T : List Addr) : Heap := PySem.W.hideAll h (e :: (T ++ frs X.stack))
section
variable {X : Cx} {pins : List (Addr × Obj)} {σ : St} {H : Hp} {s : Shared} {e C T : Addr} {dx : Option Addr} {vs : Array Value}
theorem apart_stays {Ts : List Addr} {h : Heap} : (apart X h e Ts).StaysIn h := fun b o q => PySem.W.of_hideAll _ q
theorem apart_get {Ts : List Addr} {h : Heap} {b : Addr} {o : Obj} (q : h.get? b = some o) (h1 : b ≠ e) (h2 : b ∉ Ts) (h3 : b ∉ frs X.stack) : (apart X h e Ts).get? b = some o :=
  PySem.W.hideAll_get _ q fun hm => by
    rcases List.mem_cons.mp hm with z | z
    · exact h1 z
    · rcases List.mem_append.mp z with z | z
      · exact h2 z
      · exact h3 z
theorem apart_none {Ts : List Addr} {h : Heap} {b : Addr} (hb : b = e ∨ b ∈ Ts ∨ b ∈ frs X.stack) : (apart X h e Ts).get? b = none :=
  PySem.W.hideAll_none _ (by
    rcases hb with z | z | z
    · rw [z]; exact List.mem_cons_self
    · exact List.mem_cons_of_mem _ (List.mem_append_left _ z)
    · exact List.mem_cons_of_mem _ (List.mem_append_right _ z))
theorem apart_frames {Ts : List Addr} (I : Inv X pins σ H s) : s.heap.FunFrames (apart X s.heap e Ts) X.stack := by
  have key : ∀ l : List Env, (∀ b ∈ frs l, b ∈ frs X.stack) → s.heap.FunFrames X.base l → s.heap.FunFrames (apart X s.heap e Ts) l := by
    intro l
    induction l with
    | nil => intro _ _; trivial
    | cons env r ih =>
      intro hs hl
      obtain ⟨hk, ⟨L, o, hf, hn, ho, hd⟩, hr⟩ := hl
      have hL : L ∈ frs X.stack := hs L (by unfold frs; rw [List.filterMap_cons, hf]; exact List.mem_cons_self)
      exact ⟨hk, ⟨L, o, hf, apart_none (.inr (.inr hL)), ho, hd⟩, ih (fun b hb => hs b (by unfold frs; rw [List.filterMap_cons, hf]; exact List.mem_cons_of_mem _ hb)) hr⟩
  exact key X.stack (fun _ h => h) I.stack
theorem Inv.shaken {h' : Heap} {vs' : Array Value} {Ts : List Addr} (I : Inv X pins σ H s) (he : H e = some (XcO e C dx vs)) (hn : ∀ b ∈ Ts, H b = none)
    (hT : ∀ b ∈ Ts, X.s₀.heap.objs.size ≤ b ∧ b ≠ X.env.locals ∧ (∀ x c, X.env.cells.lookup x = some c → c ≠ b) ∧ ∀ p ∈ X.pn ++ pins, p.1 ≠ b)
    (hs : (apart X s.heap e Ts).StaysIn h') (up : s.heap.UpToSlots h') (he' : h'.get? e = some (xobj C dx vs')) :
    Inv X pins σ (upd H e (XcO e C dx vs')) { s with heap := h' } := by
  have ge := xco_get I.hok he
  have nfr : e ∉ frs X.stack := fun z => by rw [I.stkFree e z] at he; cases he
  have frL : X.env.locals ∈ frs X.stack ∨ X.env.locals ∉ frs X.stack := Classical.em _
  have dat : ∀ b ∈ frs X.stack, ∃ o, s.heap.get? b = some o ∧ ∀ ws, o.data ≠ .fields ws := fun b hb => by
    obtain ⟨_, o, ho, hd⟩ := I.stack.mem hb
    exact ⟨o, ho, hd⟩
  have keepN : ∀ b o, b ≠ e → b ∉ Ts → b ∉ frs X.stack → s.heap.get? b = some o → h'.get? b = some o := fun b o h1 h2 h3 q => hs b o (apart_get q h1 h2 h3)
  have ne : ∀ b, H b = none → b ≠ e := fun b n z => by subst z; rw [he] at n; cases n
  refine I.step (g' := s.gens) (d' := s.drawn) (ch := Ts) (fun b hb => ⟨.inr (hT b hb).1, (hT b hb).2⟩) (fun b o hL hb hc q n => keepN b o (ne b n) hc (fun z => by
      rcases List.mem_cons.mp (I.stkSub b z) with z | z
      · exact hL z
      · exact hb z) q) (fun b o hL hb hc q n => ?_) (fun b o hc q n => by rw [upd_ne (ne b n)]; exact n) (fun b o hc q => ?_) (fun b xs q => by rw [upd_ne (fun z => by subst z; rw [he] at q; cases q)]; exact q)
      (fun b o u q => by rw [upd_ne (fun z => by subst z; rw [he] at q; cases q)]; exact q) (fun b lp lq q => by rw [upd_ne (fun z => by subst z; rw [he] at q; cases q)]; exact q) (fun m hm => up.ns hm) (fun b u q => ?_) I.bare
  · by_cases hf : b ∈ frs X.stack
    · obtain ⟨o', ho', hd⟩ := dat b hf
      rw [q] at ho'
      cases ho'
      exact up b o q hd
    · exact ⟨o.slots, keepN b o (ne b n) hc hf q⟩
  · by_cases hbe : b = e
    · subst hbe; exact ⟨_, he'⟩
    · by_cases hf : b ∈ frs X.stack
      · obtain ⟨o', ho', hd⟩ := dat b hf
        obtain ⟨sl, z⟩ := up b o' ho' hd
        exact ⟨_, z⟩
      · exact ⟨o, keepN b o hbe hc hf q⟩
  · by_cases hbe : b = e
    · subst hbe
      rw [upd_same] at q
      cases q
      exact xco_ok he'
    · rw [upd_ne hbe] at q
      refine (I.hok b u q).stay (fun c v hc z => keepN c v ?_ ?_ ?_ z) (fun c z => by rw [upd_ne (fun y => by subst y; rw [he] at z; cases z)]; exact z) (fun c xs z => by rw [upd_ne (fun y => by subst y; rw [he] at z; cases z)]; exact z) fun c ob xs z => by rw [upd_ne (fun y => by subst y; rw [he] at z; cases z)]; exact z
      · rintro rfl
        rcases hc with z | z
        · exact hbe z.symm
        · rw [he] at z; cases z
      · intro y
        have := hn c y
        rcases hc with z | z
        · rw [z, q] at this; cases this
        · rw [z] at this; cases this
      · intro y
        have := I.stkFree c y
        rcases hc with z | z
        · rw [z, q] at this; cases this
        · rw [z] at this; cases this
end
structure Flies (h : Heap) (H : Hp) (low : Nat) (a C T : Addr) (dx : Option Addr) (vs : Array Value) : Prop where
  at_ : H a = some (XcO a C dx vs)
  tr : vs[1]? = some (.ref T)
  new : low ≤ T
  free : H T = none
  ne : T ≠ a
  dict : ∀ y, dx = some y → ∃ fs, H y = some (.xd fs)
  recd : ∃ oT ts, h.get? T = some oT ∧ oT.data = .fields ts ∧ ts[3]? = some .none
theorem dict_upd {H : Hp} {a C : Addr} {dx : Option Addr} {vs vs' : Array Value} (e : H a = some (XcO a C dx vs)) (d : ∀ y, dx = some y → ∃ fs, H y = some (.xd fs)) : ∀ y, dx = some y → ∃ fs, (upd H a (XcO a C dx vs')) y = some (.xd fs) := fun y q => by
  obtain ⟨fs, z⟩ := d y q
  refine ⟨fs, ?_⟩
  rw [upd_ne (ne_of z e (by intro z; cases z))]
  exact z
def CX1 (P : Program) (w : World) : CXT := fun outer H s E e s' => ∃ (a T C : Addr) (dx : Option Addr) (vs : Array Value) (H' : Hp), e = .ref a ∧ s'.os = s.os ∧ AllBare s'.gens ∧ Un (frs outer) [] H H' s.heap s'.heap ∧ HOk P w H' s'.heap ∧ s.heap.objs.size ≤ s'.heap.objs.size ∧
  Flies s'.heap H' s.heap.objs.size a C T dx vs ∧ ∀ vs', E (.ref C) (some a) (upd H' a (XcO a C dx vs'))
end L2

set_option Elab.async false
set_option linter.all false
set_option maxRecDepth 100000
set_option maxHeartbeats 4000000
namespace L2
open PySem PySem.Spec PyProof.Rows
section
variable {X : Cx} {pins : List (Addr × Obj)} {σ : St} {H H1 : Hp} {s s1 : Shared} {a C T : Addr} {dx : Option Addr} {vs : Array Value}
theorem Inv.beyond (I : Inv X pins σ H s) {b : Addr} (hb : s.heap.objs.size ≤ b) : X.s₀.heap.objs.size ≤ b ∧ b ≠ X.env.locals ∧ (∀ x c, X.env.cells.lookup x = some c → c ≠ b) ∧ (∀ p ∈ X.pn ++ pins, p.1 ≠ b) ∧ b ∉ frs X.stack := by
  refine ⟨Nat.le_trans I.sz hb, Nat.ne_of_gt (Nat.lt_of_lt_of_le I.lt hb), fun x c e z => ?_, fun p hp z => ?_, fun z => ?_⟩
  · obtain ⟨v, o, ho, _⟩ := I.cell x c e
    rw [z] at ho
    exact absurd (Nat.lt_of_lt_of_le (Heap.lt_size ho) hb) (Nat.lt_irrefl _)
  · obtain ⟨ho, _⟩ := I.pin p hp
    rw [z] at ho
    exact absurd (Nat.lt_of_lt_of_le (Heap.lt_size ho) hb) (Nat.lt_irrefl _)
  · obtain ⟨_, o, ho, _⟩ := I.stack.mem z
    exact absurd (Nat.lt_of_lt_of_le (Heap.lt_size ho) hb) (Nat.lt_irrefl _)
theorem Flies.xat {n : Nat} (F : Flies s1.heap H1 n a C T dx vs) (J : Inv X pins σ H1 s1) : Heap.XAt (apart X s1.heap a [T]) X.stack a C dx T .none s1.heap := by
  obtain ⟨oT, ts, h1, h2, h3⟩ := F.recd
  exact ⟨apart_stays, apart_none (.inl rfl), apart_frames J, vs, oT, ts, xco_get J.hok F.at_, F.tr, apart_none (.inr (.inl (by simp))), F.ne, h1, h2, h3⟩
theorem Flies.on {h' : Heap} {T' : Addr} (F : Flies s1.heap H1 s.heap.objs.size a C T dx vs) (I : Inv X pins σ H s) (J : Inv X pins σ H1 s1) (x : Heap.XAt (apart X s1.heap a [T]) X.stack a C dx T' .none h') (up : s1.heap.UpToSlots h') (hn : s1.heap.objs.size ≤ T' ∨ T' = T)
    (hz : s.heap.objs.size ≤ s1.heap.objs.size) :
    ∃ vs', Inv X pins σ (upd H1 a (XcO a C dx vs')) { s1 with heap := h' } ∧ Flies h' (upd H1 a (XcO a C dx vs')) s.heap.objs.size a C T' dx vs' := by
  obtain ⟨x1, x2, x3, vs', oT, ts, he, h1, hnT, hTe, hT, hdT, h3⟩ := x
  obtain ⟨b1, b2, b3, b4, b5⟩ := I.beyond F.new
  have w : s.heap.objs.size ≤ T' ∧ H1 T' = none := by
    rcases hn with z | z
    · exact ⟨Nat.le_trans hz z, J.hok.fresh z⟩
    · rw [z]; exact ⟨F.new, F.free⟩
  refine ⟨vs', J.shaken F.at_ (fun b hb => ?_) (fun b hb => ?_) x1 up he, ⟨upd_same, h1, w.1, ?_, hTe, dict_upd F.at_ F.dict, oT, ts, hT, hdT, h3⟩⟩
  · have e : b = T := by simpa using hb
    rw [e]; exact F.free
  · have e : b = T := by simpa using hb
    rw [e]; exact ⟨b1, b2, b3, b4⟩
  · rw [upd_ne hTe]; exact w.2
end
/-! ### an exception leaves a def -/
theorem Flies.low {h : Heap} {H : Hp} {m n : Nat} {a C T : Addr} {dx : Option Addr} {vs : Array Value} (F : Flies h H m a C T dx vs) (l : n ≤ m) : Flies h H n a C T dx vs := ⟨F.at_, F.tr, Nat.le_trans l F.new, F.free, F.ne, F.dict, F.recd⟩
section
variable {P : Program} {w : World} {K : PySem.W.Frag} {mg : Str → Option Value} {base : Heap} {N : List Str} {qual : Str} {scope : Scope} {f : Addr} {cd : Value} {A : Around} {outer : List Env} {s₀ : Shared} {H₀ : Hp} {E : XK}
theorem passes1 : Passes (CX1 P w) (cxOf (CX1 P w) P w K mg base N qual scope f cd A outer s₀ H₀ E) E := by
  intro pins σ H1 s1 e s' I h
  obtain ⟨a, T, C, dx, vs, H2, rfl, os, gb, un, hok, hz, F, hE⟩ := h
  have J := I.call' os un hok gb (fun b hb => absurd hb (by simp))
  refine x_leave_next (L := s₀.heap.objs.size) I.ok.frames rfl (F.xat J) fun h' T' x up hn => ?_
  obtain ⟨vs', J', F'⟩ := F.on I J x up (.inl hn) hz
  refine ⟨a, T', C, dx, vs', _, rfl, J'.os, J'.bare, J'.base, J'.hok, J'.sz, F'.low I.sz, fun vs2 => ?_⟩
  rw [upd_upd]
  exact hE vs2
end
/-! ### an exception is made -/
theorem ObjOk.there {P : Program} {w : World} {H : Hp} {h : Heap} {a : Addr} {o : HO} (x : ObjOk P w H h a o) : ∃ ob, h.get? a = some ob := by
  cases o with
  | lst xs => obtain ⟨_, _, _, _, e⟩ := x; exact ⟨_, e⟩
  | tup xs => obtain ⟨_, _, _, o, e, _⟩ := x; exact ⟨_, e⟩
  | dK kvs => obtain ⟨_, _, _, _, o, _, _, e, _⟩ := x; exact ⟨_, e⟩
  | dT kvs => obtain ⟨_, _, _, _, o, _, _, e, _⟩ := x; exact ⟨_, e⟩
  | set S n => obtain ⟨o, _, _, _, e, _⟩ := x; exact ⟨_, e⟩
  | ins C dx fs => obtain ⟨_, _, _, e, _⟩ := x; exact ⟨_, e⟩
  | own y => exact x
  | xd fs => obtain ⟨_, ⟨_, _, _, e, _⟩, _⟩ := x; exact ⟨_, e⟩
  | rng lo hi => obtain ⟨_, _, _, e⟩ := x; exact ⟨_, e⟩
  | frz ob u => obtain ⟨e, _⟩ := x; exact ⟨_, e⟩
  | tbl lp lq => obtain ⟨_, e, _⟩ := x; exact ⟨_, e⟩
  | met f y => exact ⟨_, (show h.get? a = some _ from x)⟩
  | ext φ => exact x.2.1
section
variable {X : Cx} {pins : List (Addr × Obj)} {σ : St} {H : Hp} {s : Shared}
theorem Inv.xmade {h' : Heap} {e C : Addr} {us : List Value} (I : Inv X pins σ H s) (hm : Heap.MadeExcOf s.heap h' e (.ref C) us) :
    ∃ t, H e = none ∧ Inv X pins σ (upd H e (XcO e C none #[.ref t, .none, .none, .none, .bool false, .none])) { s with heap := h' } := by
  obtain ⟨t, g1, g2, g3⟩ := hm.there
  have hn : H e = none := by
    cases q : H e with
    | none => rfl
    | some o =>
      obtain ⟨ob, z⟩ := (I.hok e o q).there
      rw [hm.new] at z
      cases z
  refine ⟨t, hn, I.un (t' := s.toks) ⟨fun b o q _ _ _ => hm.keeps b o q, fun b o q _ _ _ => ⟨o.slots, hm.keeps b o q⟩, fun b o q n _ => ?_, fun b o q _ => ⟨o, hm.keeps b o q⟩, fun b xs q => ?_, fun b o u q => ?_, fun b lp lq q => ?_⟩ fun b u q => ?_⟩
  · rw [upd_ne (fun z => by subst z; rw [hm.new] at q; cases q)]
    exact n
  · rw [upd_ne (ne_of_none q hn)]
    exact q
  · rw [upd_ne (ne_of_none q hn)]
    exact q
  · rw [upd_ne (ne_of_none q hn)]
    exact q
  · by_cases hb : b = e
    · subst hb
      rw [upd_same] at q
      cases q
      exact xco_ok g1
    · rw [upd_ne hb] at q
      exact (I.hok b u q).stay (fun c v _ z => hm.keeps c v z) (fun c z => by rw [upd_ne (ne_of_none z hn)]; exact z) (fun c xs z => by rw [upd_ne (ne_of_none z hn)]; exact z) fun c ob xs z => by rw [upd_ne (ne_of_none z hn)]; exact z
end
structure XMk (K : PySem.W.Frag) (C : Addr) (ini : Option Addr) : Prop where
  cls : XCls K C
  xc : PySem.W.xcIn K C ini = true
  kp : PySem.W.keepIn K (.ref C) = true
  fn : ∀ f, ini = some f → PySem.W.isFn K (.ref f) = true
def spXInit (K : PySem.W.Frag) (C : Addr) (f : Str) : Sp := fun vs H Q _ => ∃ a v ws, vs = [.ref a, v] ∧ XCls K C ∧ NoAttr K C f ∧ H a = some (XcO a C none ws) ∧
  ∀ d H2, (∀ b o, b ≠ a → H b = some o → H2 b = some o) → H d = none → H2 a = some (XcO a C (some d) ws) → H2 d = some (.xd [(f, v)]) → Q .non H2
def tXMake (C : Addr) (f : Str) (t : TA) : TE := fun σ H Q => t σ H fun vs H1 => ∃ v, vs = [v] ∧ ∀ a d ws H2, Same H1 H2 → H1 a = none → ws[1]? = some Value.none → H2 a = some (XcO a C (some d) ws) → H2 d = some (.xd [(f, v)]) → Q (.ref a) H2
section
variable {X : Cx} {k : Nat} {fI C : Addr} {fd : FuncData} {ps : List Str} {x fn : Str} {p pos : Pos} {e : Expr} {es : List Expr} {t : TA}
theorem run_xmake {pins : List (Addr × Obj)} {σ : St} {H : Hp} {s : Shared} {Q : VK} {us : List Value} {v : V} (M : XMk X.K C (some fI)) (n : NoAttr X.K C fn) (F : FnOk X.prog X.w X.K X.mg X.base CX0 k fI fd ps (spXInit X.K C fn)) (hr : Room (k + 1) X.A) (hb : Binds X.K fd ps [])
    (I : Inv X pins σ H s) (r : Vals [v] us)
    (h : ∀ a d ws H2, Same H H2 → H a = none → ws[1]? = some Value.none → H2 a = some (XcO a C (some d) ws) → H2 d = some (.xd [(fn, v)]) → Q (.ref a) H2) :
    wpAny (model X.prog X.w) X.A (call (.ref C) us) (EP X pins σ Q) X.xe s := by
  obtain ⟨nm, q, N, bs, bm, sn, sub, ab, col, dd, k0, k1, k2, k3, k5, mN, hC, hNs, hini, T, hrf⟩ := (PySem.W.xc_of I.kIn M.xc).ex
  have hfn := M.fn fI rfl
  obtain ⟨oI, hfI, hfc⟩ : ∃ oI, s.heap.get? fI = some oI ∧ oI.cls = .type "function" := PySem.W.fn_obj I.kIn hfn
  have hu1 : us.length ≤ sizeLine := by rw [← r.length]; exact sz 1 (by decide)
  obtain ⟨hp, g, dr, tk, os⟩ := s
  refine xc_call PySem.F.excBase_ValueError T hC hNs hini hfI hfc (fun h' a hm => ?_) hu1
  obtain ⟨t0, hn, I2⟩ := Inv.xmade (s := ⟨hp, g, dr, tk, os⟩) I hm
  have r2 : Vals [V.ref a, v] (Value.ref a :: us) := .cons rfl r
  have hq : spXInit X.K C fn [V.ref a, v] (upd H a (XcO a C none #[.ref t0, .none, .none, .none, .bool false, .none])) (fun v H2 => v = .non ∧ Q (.ref a) H2) E0 := by
    refine ⟨a, v, _, rfl, M.cls, n, upd_same, fun d H2 k1 hd k2 k3 => ⟨rfl, ?_⟩⟩
    refine h a d _ H2 (fun b o q => k1 b o (ne_of_none q hn) ?_) hn rfl k2 k3
    rw [upd_ne (ne_of_none q hn)]
    exact q
  have hl : (Value.ref a :: us ++ []).length = ps.length := by
    have e := r2.length
    rw [F.len _ _ _ _ hq] at e
    rw [List.append_nil]
    exact e.symm
  have hb2 := hb ⟨h', g, dr, tk, os⟩ (Value.ref a :: us) I2.kIn hl
  rw [List.append_nil] at hb2
  refine wpAny_call (codeAny_mono (F.run _ X.stack _ _ ⟨Value.ref a :: us, []⟩ (Value.ref a :: us) _ _ E0 (hr.make C us []) (I2.env0.make C us []) hb2 r2 hq) fun r s' hq' => ?_)
  cases r with
  | error e => exact hq'.elim
  | ok fl =>
    cases fl with
    | ret u =>
      obtain ⟨v, H', I3, rv, ev, q3⟩ := I2.after hq'
      subst ev
      exact ⟨rv, ⟨V.ref a, H', I3, rfl, q3⟩⟩
    | next => exact False.elim hq'
    | brk => exact False.elim hq'
    | cont => exact False.elim hq'
theorem pe_xmake (M : XMk X.K C (some fI)) (n : NoAttr X.K C fn) (F : FnOk X.prog X.w X.K X.mg X.base CX0 k fI fd ps (spXInit X.K C fn)) (hr : Room (k + 1) X.A) (hb : Binds X.K fd ps []) (hg : Gl X x) (hm : X.mg x = some (.ref C))
    (ha : PA X (e :: es) t) (hdb : (x == ("__debug__" : Str)) = false := by decide) (he : starEach (e :: es) X.env = (false, eval e X.env) :: starEach es X.env := by rfl) (hpl : (backTo pos (starEach es X.env)).any (·.1) = false := by rfl) :
    PE X (.Call (.Name x p) (e :: es) [] pos) (tXMake C fn t) := by
  with_unfolding_all
    intro pins s σ H Q I h
    refine wpAny_Call_Name_kw (ld_glob I hg hm ?_ hdb)
    refine PySem.W.callWith_K (h₀ := X.base) I.ok.mod.kin M.kp (thn (ha pos pins s σ H _ I h) fun us s1 ⟨vs, H1, I1, r, v, ev, q⟩ => ⟨I1.kIn, ?_⟩) he hpl
    subst ev
    exact run_xmake M n F hr hb I1 r q
end
/-! ### raise -/
theorem x_raiseStmt {M : Model} {A : Around} {E : Value → Shared → Prop} {env : Env} {s : Shared} {x : Sem Value} {Q : Flow → Shared → Prop} {C : Addr} (hh : A.handled = none)
    (h : wpAny M A x (fun v s₁ => ∃ e dx vs nm q N bs bm sn sub ab col dd k0 k1 k2 k3 k5, v = .ref e ∧ s₁.heap.get? C = some (excClassObj nm q C N bs bm true sn sub ab col dd k0 k1 k2 k3 k5 "ValueError.__new__") ∧ bm.contains (.type "BaseException") = true ∧
      s₁.heap.get? e = some (xobj C dx vs) ∧ vs[1]? = some .none ∧ E (.ref e) s₁) E s) :
    wpAny M A (raiseStmt env (some x) none) Q E s := by
  unfold raiseStmt
  refine wpAny_bind (wpAny_mono h (fun v s₁ h₁ => ?_) fun _ _ x => x)
  obtain ⟨e, dx, vs, nm, q, N, bs, bm, sn, sub, ab, col, dd, k0, k1, k2, k3, k5, rfl, hC, hbase, he, h1, hE⟩ := h₁
  have hcB : (Value.ref C :: bm).contains (.type "BaseException") = true := by rw [List.contains_cons, hbase, Bool.or_true]
  obtain ⟨hp, g, d, tk, os⟩ := s₁
  repeat (first | with_reducible refine wpAny_loadPart_at he ?_ | with_reducible refine wpAny_loadPart_at hC ?_ | (with_reducible refine wpAny_isSubtype_exc hC ?_; rw [hcB]) | wp_step)
  rw [h1]
  refine wpAny_pure ?_
  rw [if_neg (by decide)]
  exact wpAny_pure (wpAny_raiseNew_none hh hE)
section
variable {P : Program} {w : World} {K : PySem.W.Frag} {mg : Str → Option Value} {base : Heap} {N : List Str} {qual : Str} {scope : Scope} {f : Addr} {cd : Value} {A : Around} {outer : List Env} {s₀ : Shared} {H₀ : Hp} {E : XK}
theorem x_thrown {pins : List (Addr × Obj)} {σ : St} {H : Hp} {s : Shared} {a C : Addr} {dx : Option Addr} {vs : Array Value} (I : Inv (cxOf (CX1 P w) P w K mg base N qual scope f cd A outer s₀ H₀ E) pins σ H s) (ea : H a = some (XcO a C dx vs)) (h1 : vs[1]? = some .none) (hd : ∀ y, dx = some y → ∃ fs, H y = some (.xd fs))
    (hE : ∀ vs', E (.ref C) (some a) (upd H a (XcO a C dx vs'))) : (cxOf (CX1 P w) P w K mg base N qual scope f cd A outer s₀ H₀ E).xe (.ref a) s := by
  refine x_leave_first (base := apart (cxOf (CX1 P w) P w K mg base N qual scope f cd A outer s₀ H₀ E) s.heap a []) (L := s₀.heap.objs.size) I.ok.frames (apart_frames I) rfl (xco_get I.hok ea) apart_stays (apart_none (.inl rfl)) h1 fun h' T' x up hn => ?_
  obtain ⟨x1, x2, x3, vs', oT, ts, he, h1, hnT, hTe, hT, hdT, h3⟩ := x
  have J := I.shaken (Ts := []) ea (fun b hb => absurd hb (by simp)) (fun b hb => absurd hb (by simp)) x1 up he
  refine ⟨a, T', C, dx, vs', _, rfl, J.os, J.bare, J.base, J.hok, J.sz, ⟨upd_same, h1, Nat.le_trans I.sz hn, ?_, hTe, dict_upd ea hd, oT, ts, hT, hdT, h3⟩, fun vs2 => ?_⟩
  · rw [upd_ne hTe]
    exact I.hok.fresh hn
  · rw [upd_upd]
    exact hE vs2
def sRaise (C : Addr) (te : TE) (E : XK) : TS := fun _ σ H => te σ H fun v H1 => ∃ a dx vs, v = .ref a ∧ H1 a = some (XcO a C dx vs) ∧ vs[1]? = some Value.none ∧ (∀ y, dx = some y → ∃ fs, H1 y = some (.xd fs)) ∧ ∀ vs', E (.ref C) (some a) (upd H1 a (XcO a C dx vs'))
theorem ps_raise {C : Addr} {e : Expr} {pos : Pos} {te : TE} (hc : XCls K C) (hh : A.handled = none) (he : PE (cxOf (CX1 P w) P w K mg base N qual scope f cd A outer s₀ H₀ E) e te) :
    PS (cxOf (CX1 P w) P w K mg base N qual scope f cd A outer s₀ H₀ E) (.Raise (some e) none pos) (sRaise C te E) := by
  with_unfolding_all
    intro pins s σ H D I h
    rw [arm_exec_Raise]
    refine wpAny_bind (wpAny_standAt (x_raiseStmt (C := C) hh ?_))
    simp only [evalOpt, Option.map]
    refine wpAny_bind (thn (he pins s σ H _ I h) fun u s1 ⟨v, H1, I1, r, a, dx, vs, ev, ea, h1, hd, hE⟩ => wpAny_bind (wpAny_standAt (wpAny_pure ?_)))
    subst ev
    cases (show u = Value.ref a from r)
    obtain ⟨ini, hi⟩ := hc.xc
    obtain ⟨nm, q, N, bs, bm, sn, sub, ab, col, dd, k0, k1, k2, k3, k5, mN, hC, hNs, hini, T, hrf⟩ := (PySem.W.xc_of I1.kIn hi).ex
    exact ⟨a, dx, vs, nm, q, N, bs, bm, sn, sub, ab, col, dd, k0, k1, k2, k3, k5, rfl, hC, T.hasType (X := "BaseException") (b := true) (by decide +kernel), xco_get I1.hok ea, h1, x_thrown I1 ea h1 hd hE⟩
end
end L2

set_option Elab.async false
set_option linter.all false
set_option maxRecDepth 100000
set_option maxHeartbeats 4000000
namespace L2
open PySem PySem.Spec PyProof.Rows
/-! ## try: the body at one state of the names -/
def PE1 (X : Cx) (σ : St) (e : Expr) (t : TE) : Prop :=
  ∀ (pins : List (Addr × Obj)) (s : Shared) (H : Hp) (Q : VK), Inv X pins σ H s → t σ H Q → wpAny (model X.prog X.w) X.A (eval e X.env) (EP X pins σ Q) X.xe s
def PS1 (X : Cx) (σ : St) (st : Stmt) (t : TS) : Prop :=
  ∀ (pins : List (Addr × Obj)) (s : Shared) (H : Hp) (D : Ends), Inv X pins σ H s → t D σ H → wpAny (model X.prog X.w) X.A (exec st X.env) (SP X pins D) X.xe s
def PSs1 (X : Cx) (σ : St) (st : List Stmt) (t : TS) : Prop :=
  ∀ (pins : List (Addr × Obj)) (s : Shared) (H : Hp) (D : Ends), Inv X pins σ H s → t D σ H → wpAny (model X.prog X.w) X.A (execs st X.env) (SP X pins D) X.xe s
section
variable {X : Cx} {σ : St}
theorem pss_one1 {st : Stmt} {t : TS} (h : PS1 X σ st t) : PSs1 X σ [st] t := by
  intro pins s H D I q
  refine wpAny_execs_cons (thn (h pins s H D I q) fun f s1 q => ?_)
  cases f with
  | next => exact wpAny_execs_nil q
  | ret v => exact q
  | brk => exact q
  | cont => exact q
theorem ps_expr1 {e : Expr} {te : TE} {pos : Pos} (he : PE1 X σ e te) (hs : swapsWith e none pos.line X.env = pure false := by rfl) : PS1 X σ (.Expr e pos) (tDrop te) := by
  intro pins s H D I h
  exact wpAny_Expr_any (thn (he pins s H _ I h) fun v s1 ⟨x, H1, I1, r1, q1⟩ => ⟨σ, H1, I1, q1⟩) I.quiet hs
theorem ps_if1 {c : Expr} {a b : List Stmt} {tc : TT} {t u : TS} {pos : Pos} (hc : PT X c tc) (ha : PSs1 X σ a t) (hb : PSs1 X σ b u) : PS1 X σ (.If c a b pos) (tIfS tc t u) := by
  with_unfolding_all
    intro pins s H D I h
    refine wpAny_If (thn (hc pins s σ H _ I h) fun d s1 ⟨H1, I1, q1⟩ => ?_)
    cases d with
    | true => exact ha pins s1 H1 D I1 q1
    | false => exact hb pins s1 H1 D I1 q1
end
/-! ### the context of a try's body; of a handler's suite -/
structure Aside (X : Cx) (pins : List (Addr × Obj)) (b : Addr) : Prop where
  p : X.s₀.heap.objs.size ≤ b ∧ b ≠ X.env.locals ∧ (∀ x c, X.env.cells.lookup x = some c → c ≠ b) ∧ ∀ p ∈ X.pn ++ pins, p.1 ≠ b
def Caught (X : Cx) (pins : List (Addr × Obj)) (σ : St) (W : XK) (e : Value) (s' : Shared) : Prop :=
  ∃ a T C dx vs H', e = .ref a ∧ Inv X pins σ H' s' ∧ Flies s'.heap H' 0 a C T dx vs ∧ Aside X pins T ∧ ∀ vs', W (.ref C) (some a) (upd H' a (XcO a C dx vs'))
abbrev cxTry (X : Cx) (pins : List (Addr × Obj)) (σ : St) (W : XK) : Cx := { X with pn := X.pn ++ pins, xe := Caught X pins σ W }
abbrev cxH (X : Cx) (a : Addr) : Cx := { X with A := X.A.mark (some (.ref a)), calm := false, xe := fun _ _ => False }
section
variable {X : Cx} {pins pins' : List (Addr × Obj)} {σ τ : St} {H : Hp} {s : Shared} {W : XK}
theorem Inv.inTry (I : Inv X pins σ H s) : Inv (cxTry X pins τ W) [] σ H s :=
  ⟨⟨I.ok.mod, I.ok.kind, I.ok.glob, I.ok.blt, I.ok.above, I.ok.inj, I.ok.has, I.ok.cab, I.ok.hd, I.ok.frames, I.ok.stk, I.ok.exf, I.ok.bs, I.ok.bsz, I.ok.noex, I.ok.exfs, I.ok.funs, I.ok.frf⟩, I.os, I.bare, I.base, I.loc, I.cell, I.free, I.freeC, fun p hp => I.pin p (by simpa using hp), I.hok, I.len⟩
theorem Inv.outTry (I : Inv (cxTry X pins τ W) pins' σ H s) : Inv X pins σ H s :=
  ⟨⟨I.ok.mod, I.ok.kind, I.ok.glob, I.ok.blt, I.ok.above, I.ok.inj, I.ok.has, I.ok.cab, I.ok.hd, I.ok.frames, I.ok.stk, I.ok.exf, I.ok.bs, I.ok.bsz, I.ok.noex, I.ok.exfs, I.ok.funs, I.ok.frf⟩, I.os, I.bare, I.base, I.loc, I.cell, I.free, I.freeC, fun p hp => I.pin p (List.mem_append_left _ hp), I.hok, I.len⟩
theorem Inv.inH (I : Inv X pins σ H s) (a : Addr) : Inv (cxH X a) pins σ H s :=
  ⟨⟨I.ok.mod, I.ok.kind, I.ok.glob, I.ok.blt, I.ok.above, I.ok.inj, I.ok.has, I.ok.cab, (fun z => by cases z), I.ok.frames, I.ok.stk, I.ok.exf, I.ok.bs, I.ok.bsz, I.ok.noex, I.ok.exfs, I.ok.funs, I.ok.frf⟩, I.os, I.bare, I.base, I.loc, I.cell, I.free, I.freeC, I.pin, I.hok, I.len⟩
theorem Inv.outH {a : Addr} (hc : X.calm = true → X.A.handled = none) (I : Inv (cxH X a) pins σ H s) (hfr : X.A.frames = some X.stack) : Inv X pins σ H s :=
  ⟨⟨I.ok.mod, I.ok.kind, I.ok.glob, I.ok.blt, I.ok.above, I.ok.inj, I.ok.has, I.ok.cab, hc, hfr, I.ok.stk, I.ok.exf, I.ok.bs, I.ok.bsz, I.ok.noex, I.ok.exfs, I.ok.funs, I.ok.frf⟩, I.os, I.bare, I.base, I.loc, I.cell, I.free, I.freeC, I.pin, I.hok, I.len⟩
theorem SP.outTry {D : Ends} {f : Flow} (h : SP (cxTry X pins τ W) pins' D f s) : SP X pins D f s := by
  cases f with
  | next => obtain ⟨σ', H', I, q⟩ := h; exact ⟨σ', H', I.outTry, q⟩
  | brk => obtain ⟨σ', H', I, q⟩ := h; exact ⟨σ', H', I.outTry, q⟩
  | cont => obtain ⟨σ', H', I, q⟩ := h; exact ⟨σ', H', I.outTry, q⟩
  | ret u => obtain ⟨v, σ', H', I, r, q⟩ := h; exact ⟨v, σ', H', I.outTry, r, q⟩
theorem try_passes {e : Value} {s' : Shared} (I : Inv (cxTry X pins σ W) pins' σ H s) (h : CX1 X.prog X.w X.stack H s W e s') : (cxTry X pins σ W).xe e s' := by
  obtain ⟨a, T, C, dx, vs, H2, rfl, os, gb, un, hok, hz, F, hE⟩ := h
  have J := I.call' os un hok gb (fun b hb => absurd hb (by simp))
  obtain ⟨b1, b2, b3, b4, b5⟩ := I.beyond F.new
  exact ⟨a, T, C, dx, vs, H2, rfl, J.outTry, F.low (Nat.zero_le _), ⟨b1, b2, b3, fun p hp => b4 p (List.mem_append_left _ hp)⟩, hE⟩
end
structure Cal1 (P : Program) (w : World) (K : PySem.W.Frag) (mg : Str → Option Value) (base : Heap) (x : Str) (k : Nat) (ps : List Str) (sp : Sp) : Prop where
  ex : ∃ f fd, FnOk P w K mg base (CX1 P w) k f fd ps sp ∧ Binds K fd ps [] ∧ mg x = some (.ref f) ∧ PySem.W.keepIn K (.ref f) = true
theorem Dfn.cal1 {P : Program} {w : World} {K : PySem.W.Frag} {mg : Str → Option Value} {base : Heap} {x : Str} {st : Stmt} {ps : List Str} {f : Addr} {fd : FuncData} {k : Nat} {sp : Sp}
    (D : Dfn K mg x st ps f fd) (G : FnOk P w K mg base (CX1 P w) k f fd ps sp) : Cal1 P w K mg base x k ps sp := ⟨⟨f, fd, G, D.b, D.m, D.F.kp⟩⟩
theorem Fun.ok1 {P : Program} {w : World} {K : PySem.W.Frag} {mg : Str → Option Value} {base : Heap} {x qual : Str} {st : Stmt} {f : Addr} {fd : FuncData} {N ps : List Str} {k : Nat} {sp : Sp} (F : Fun K x qual st f fd) (S : FnScope N ps (defScope st)) (len : ∀ vs H Q E, sp vs H Q E → vs.length = ps.length)
    (hbody : ∀ (cdv : Value) (A : Around) (outer : List Env) (s : Shared) (H : Hp) (vs : List V) (Q : VK) (E : XK), Room k (A.deeper (envOfC qual (defScope st) s.heap.objs.size f cdv)) → sp vs H Q E →
      ∃ t, PSs (cxOf (CX1 P w) P w K mg base N qual (defScope st) f cdv A outer s H E) (defBody st) t ∧ t { nx := fun _ H' => Q .non H', rt := Q } (start N vs) H) : FnOk P w K mg base (CX1 P w) (k + 1) f fd ps sp := by
  obtain ⟨oc, od, kV, doc, pm, an, cdv, ct, osl, rfl, lk, hcd⟩ := F.ex
  exact fn_of lk hcd S len fun A outer s H vs Q E hr hsp => hbody cdv A outer s H vs Q E hr hsp
section
variable {X : Cx} {k : Nat} {ps : List Str} {sp : Sp} {x : Str} {p pos : Pos} {e : Expr} {es : List Expr} {t : TA}
theorem pe_cal1 {E : XK} (C : Cal1 X.prog X.w X.K X.mg X.base x k ps sp) (hx : Passes (CX1 X.prog X.w) X E) (hr : Room k X.A) (hg : Gl X x) (ha : PA X (e :: es) t) (hdb : (x == ("__debug__" : Str)) = false := by decide)
    (he : starEach (e :: es) X.env = (false, eval e X.env) :: starEach es X.env := by rfl) (hpl : (backTo pos (starEach es X.env)).any (·.1) = false := by rfl) :
    PE X (.Call (.Name x p) (e :: es) [] pos) (tCall sp [] E t) := by
  obtain ⟨f, fd, G, b, m, kp⟩ := C.ex
  exact pe_call G hr hg m kp b .nil hx ha hdb he hpl
theorem pe_calT {pins : List (Addr × Obj)} {σ : St} {W : XK} (C : Cal1 X.prog X.w X.K X.mg X.base x k ps sp) (hr : Room k X.A) (hg : Gl X x) (ha : PA (cxTry X pins σ W) (e :: es) t) (hdb : (x == ("__debug__" : Str)) = false := by decide)
    (he : starEach (e :: es) X.env = (false, eval e X.env) :: starEach es X.env := by rfl) (hpl : (backTo pos (starEach es X.env)).any (·.1) = false := by rfl) :
    PE1 (cxTry X pins σ W) σ (.Call (.Name x p) (e :: es) [] pos) (tCall sp [] W t) := by
  with_unfolding_all
    obtain ⟨f, fd, F, hb, m, kp⟩ := C.ex
    intro pins' s H Q I h
    refine wpAny_Call_Name_kw (ld_glob I hg m ?_ hdb)
    refine PySem.W.callWith_K (h₀ := X.base) I.ok.mod.kin kp (thn (ha pos pins' s σ H _ I h) fun us s1 ⟨vs, H1, I1, r, q⟩ => ⟨I1.kIn, ?_⟩) he hpl
    have r2 : Vals (vs ++ []) (us ++ []) := r.append .nil
    have hl : (us ++ []).length = ps.length := by rw [← r2.length]; exact F.len _ _ _ _ q
    refine wpAny_call (codeAny_mono (F.run X.A X.stack s1 H1 ⟨us, []⟩ (us ++ []) (vs ++ []) Q W hr I1.env0 (hb s1 us I1.kIn hl) r2 q) fun r s' hq => ?_)
    cases r with
    | error e => exact try_passes I1 hq
    | ok fl =>
      cases fl with
      | ret u => exact I1.after hq
      | next => exact False.elim hq
      | brk => exact False.elim hq
      | cont => exact False.elim hq
end
/-! ### handlers -/
abbrev TH := Addr → Addr → Hp → St → Ends → Prop
structure AtH (X : Cx) (pins : List (Addr × Obj)) (σ : St) (H : Hp) (a C : Addr) (dx : Option Addr) (s : Shared) : Prop where
  I : Inv X pins σ H s
  ex : ∃ T vs, Flies s.heap H 0 a C T dx vs ∧ Aside X pins T
def PH (X : Cx) (hs : List ExceptHandler) (t : TH) : Prop := ∀ (pins : List (Addr × Obj)) (σ : St) (H : Hp) (a C : Addr) (dx : Option Addr) (s : Shared) (D : Ends), AtH X pins σ H a C dx s → (∀ vs', t C a (upd H a (XcO a C dx vs')) σ D) →
  wpAny (model X.prog X.w) X.A (handleBy (.ref a) X.env hs) (SP X pins D) X.xe s
def hAs (K : PySem.W.Frag) (Dc : Addr) (i : Nat) (ts : TS) (rest : TH) : TH := fun C a H σ D => ∃ b, PySem.W.mroIn K C (.ref Dc) = some b ∧
  if b = true then ts { nx := fun σ' H' => D.nx (σ'.set i none) H', rt := D.rt, bk := fun σ' H' => D.bk (σ'.set i none) H', ct := fun σ' H' => D.ct (σ'.set i none) H' } (σ.set i (some (.ref a))) H else rest C a H σ D
def hNo (K : PySem.W.Frag) (Dc : Addr) (ts : TS) (rest : TH) : TH := fun C a H σ D => ∃ b, PySem.W.mroIn K C (.ref Dc) = some b ∧ if b = true then ts D σ H else rest C a H σ D
def hNever : TH := fun _ _ _ _ _ => False
theorem ph_never {X : Cx} {hs : List ExceptHandler} : PH X hs hNever := fun _ _ _ _ _ _ _ _ _ h => (h #[]).elim
theorem AtH.flight {X : Cx} {pins : List (Addr × Obj)} {σ : St} {H : Hp} {a C : Addr} {dx : Option Addr} {s : Shared} {A : Around} {E : Value → Shared → Prop} {Q : Unit → Shared → Prop} (z : AtH X pins σ H a C dx s)
    (h : ∀ s' vs', AtH X pins σ (upd H a (XcO a C dx vs')) a C dx s' → Q () s') : wpAny (model X.prog X.w) A (setFlight (.ref a) none) Q E s := by
  obtain ⟨T, vs, F, G⟩ := z.ex
  refine x_flight (F.xat z.I) fun h' x up => ?_
  obtain ⟨x1, x2, x3, vs', oT, ts, he, h1, hnT, hTe, hT, hdT, h3⟩ := x
  refine h _ vs' ⟨z.I.shaken F.at_ (fun b hb => ?_) (fun b hb => ?_) x1 up he, T, vs', ⟨upd_same, h1, Nat.zero_le _, ?_, hTe, dict_upd F.at_ F.dict, oT, ts, hT, hdT, h3⟩, G⟩
  · have e : b = T := by simpa using hb
    rw [e]; exact F.free
  · have e : b = T := by simpa using hb
    rw [e]; exact G.p
  · rw [upd_ne hTe]; exact F.free
theorem name_goes {X : Cx} {pins : List (Addr × Obj)} {σ : St} {H : Hp} {s : Shared} {M : Model} {A : Around} {E : Value → Shared → Prop} {Q : Unit → Shared → Prop} {i : Nat} {n : Str} {pos : Pos} (I : Inv X pins σ H s) (hN : X.N.Nodup) (hi : X.N[i]? = some n) (hl : X.env.scope.names.lookup n = some .local)
    (h : ∀ s', Inv X pins (σ.set i none) H s' → Q () s') : wpAny M A (do bindName X.env n .none; unbindBehindTheSuite X.env n pos) Q E s := by
  obtain ⟨m, hn, hlo⟩ := id I.loc
  have hcls : (X.env.scope.kind == .class || (X.env.scope.kind == .module && X.env.locals != X.env.globals)) = false := by rw [I.ok.kind]; rfl
  refine wpAny_nameGoes_keeps hl hn hcls fun h' v hn' hs => h _ ?_
  have base : Inv X pins (σ.set i none) H s := I.weak (by simp) fun j w e => by
    by_cases hj : j = i
    · subst hj
      rw [List.getElem?_set] at e
      split at e
      · split at e <;> cases e
      · exact e
    · rw [List.getElem?_set_ne (Ne.symm hj)] at e
      exact e
  obtain ⟨oL, _, _, hoL, _⟩ := id hn
  have tracked : HOk X.prog X.w H h' := fun b ob e => by
    refine (I.hok b ob e).stay (fun c w' hc q => (hs.2 c ?_).trans q) (fun _ q => q) (fun _ _ q => q) fun _ _ _ q => q
    rintro rfl
    rcases hc with z | z
    · rw [← z, I.free] at e; cases e
    · rw [I.free] at z; cases z
  have nl : ∀ b o, X.s₀.heap.get? b = some o → b ≠ X.env.locals := fun b o e => Nat.ne_of_lt (Nat.lt_of_lt_of_le (Heap.lt_size e) I.ok.above)
  refine ⟨I.ok, I.os, I.bare, ⟨fun b o e n hb hx => (hs.2 b (nl b o e)).trans (I.base.keep b o e n hb hx), fun b o e n hb hx => ?_, I.base.free, fun b o e hx => ?_, I.base.tups, I.base.frzs, I.base.tbls⟩, ⟨_, hn', fun j y v' e1 e2 e3 => ?_⟩, fun y c e => ?_, I.free, I.freeC, fun p hp => ?_, tracked, base.len⟩
  · obtain ⟨sl, e1⟩ := I.base.slot b o e n hb hx
    exact ⟨sl, (hs.2 b (nl b o e)).trans e1⟩
  · obtain ⟨o', e1⟩ := I.base.there b o e hx
    exact ⟨o', (hs.2 b (nl b o e)).trans e1⟩
  · have hj : j ≠ i := by
      rintro rfl
      rw [List.getElem?_set] at e2
      split at e2
      · split at e2 <;> cases e2
      · rename_i z; exact absurd rfl z
    rw [List.getElem?_set_ne (Ne.symm hj)] at e2
    obtain ⟨u', r', q⟩ := hlo j y v' e1 e2 e3
    refine ⟨u', r', ?_⟩
    rcases q with ⟨k, e⟩ | ⟨k, c, e, z⟩
    · refine .inl ⟨k, ?_⟩
      have : y ≠ n := fun e => hj (nodup_ix hN e1 (e ▸ hi))
      simp [this, e]
    · exact .inr ⟨k, c, e, z.sameBut hs (I.cne y c e)⟩
  · obtain ⟨w', z⟩ := I.cell y c e
    exact ⟨w', z.sameBut hs (I.cne y c e)⟩
  · obtain ⟨e, n, ne, nf, d⟩ := I.pin p hp
    exact ⟨(hs.2 p.1 ne).trans e, n, ne, nf, d⟩
section
variable {X : Cx} {Dc : Addr} {i : Nat} {n d : Str} {np pos : Pos} {b₀ : Stmt} {suite : List Stmt} {rest : List ExceptHandler} {ts : TS} {tr : TH}
theorem AtH.test {pins : List (Addr × Obj)} {σ : St} {H : Hp} {a C : Addr} {dx : Option Addr} {s : Shared} {R : Result → Shared → Prop} {b : Bool} (z : AtH X pins σ H a C dx s) (hg : Gl X d) (hm : X.mg d = some (.ref Dc)) (hb : PySem.W.mroIn X.K Dc (.type "BaseException") = some true)
    (ht : PySem.W.typeIn X.K (.ref Dc) = some (.type "type")) (he : PySem.W.mroIn X.K C (.ref Dc) = some b) (hdb : (d == ("__debug__" : Str)) = false) (h : R (.ok (if b then .brk else .next)) s) :
    codeAny (model X.prog X.w) (X.A.mark (some (.ref a))) (.handlers (.ref a) [.ExceptHandler (some (.Name d np)) none [] pos] X.env) R s := by
  refine codeAny_handlers_test ?_
  obtain ⟨T, vs, F, G⟩ := z.ex
  obtain ⟨od, J⟩ := z.I.inst F.at_ F.dict
  exact ld_glob (X := cxH X a) (z.I.inH a) hg hm (PySem.W.xmatch z.I.kIn J hb ht he h) hdb
theorem ph_as (hs : ∀ a, PSs (cxH X a) (b₀ :: suite) ts) (hr : PH X rest tr) (hN : X.N.Nodup) (hi : X.N[i]? = some n) (hl : X.env.scope.names.lookup n = some .local) (hg : Gl X d) (hm : X.mg d = some (.ref Dc)) (hb : PySem.W.mroIn X.K Dc (.type "BaseException") = some true)
    (ht : PySem.W.typeIn X.K (.ref Dc) = some (.type "type")) (hdb : (d == ("__debug__" : Str)) = false := by decide) : PH X (.ExceptHandler (some (.Name d np)) (some n) (b₀ :: suite) pos :: rest) (hAs X.K Dc i ts tr) := by
  with_unfolding_all
    intro pins σ H a C dx s D z h
    obtain ⟨b, he, _⟩ := h #[]
    have h' : ∀ vs', if b = true then ts { nx := fun σ' H' => D.nx (σ'.set i none) H', rt := D.rt, bk := fun σ' H' => D.bk (σ'.set i none) H', ct := fun σ' H' => D.ct (σ'.set i none) H' } (σ.set i (some (.ref a))) (upd H a (XcO a C dx vs')) else tr C a (upd H a (XcO a C dx vs')) σ D := fun vs' => by
      obtain ⟨b', he', q⟩ := h vs'
      rw [he] at he'
      cases he'
      exact q
    refine wpAny_handleBy_cons (z.test hg hm hb ht he hdb ?_) (by intro q; cases q)
    cases b with
    | false => exact hr pins σ H a C dx s D z fun vs' => by have q := h' vs'; rw [if_neg Bool.false_ne_true] at q; exact q
    | true =>
      refine codeAny_handlers_suite_as (z.flight fun s1 vs1 z1 => ?_)
      have q := h' vs1
      rw [if_pos rfl] at q
      refine store_ok (X := cxH X a) (z1.I.inH a) hN hi (.inl hl) (v := .ref a) rfl (fun s2 I2 => ?_) (.inr hl)
      refine wpAny_mono (hs a pins s2 _ _ _ I2 q) (fun f s3 hsp => ?_) fun _ _ zf => zf.elim
      cases f with
      | next => obtain ⟨σ', H', I3, q3⟩ := hsp; exact name_goes (I3.outH z.I.ok.hd z.I.ok.frames) hN hi hl fun s4 I4 => ⟨_, H', I4, q3⟩
      | brk => obtain ⟨σ', H', I3, q3⟩ := hsp; exact name_goes (I3.outH z.I.ok.hd z.I.ok.frames) hN hi hl fun s4 I4 => ⟨_, H', I4, q3⟩
      | cont => obtain ⟨σ', H', I3, q3⟩ := hsp; exact name_goes (I3.outH z.I.ok.hd z.I.ok.frames) hN hi hl fun s4 I4 => ⟨_, H', I4, q3⟩
      | ret u => obtain ⟨v, σ', H', I3, r3, q3⟩ := hsp; exact name_goes (I3.outH z.I.ok.hd z.I.ok.frames) hN hi hl fun s4 I4 => ⟨v, _, H', I4, r3, q3⟩
theorem SP.outH {pins : List (Addr × Obj)} {D : Ends} {f : Flow} {s : Shared} {a : Addr} (hc : X.calm = true → X.A.handled = none) (hfr : X.A.frames = some X.stack) (h : SP (cxH X a) pins D f s) : SP X pins D f s := by
  cases f with
  | next => obtain ⟨σ', H', I, q⟩ := h; exact ⟨σ', H', I.outH hc hfr, q⟩
  | brk => obtain ⟨σ', H', I, q⟩ := h; exact ⟨σ', H', I.outH hc hfr, q⟩
  | cont => obtain ⟨σ', H', I, q⟩ := h; exact ⟨σ', H', I.outH hc hfr, q⟩
  | ret u => obtain ⟨v, σ', H', I, r, q⟩ := h; exact ⟨v, σ', H', I.outH hc hfr, r, q⟩
theorem ph_no (hs : ∀ a, PSs (cxH X a) (b₀ :: suite) ts) (hr : PH X rest tr) (hg : Gl X d) (hm : X.mg d = some (.ref Dc)) (hb : PySem.W.mroIn X.K Dc (.type "BaseException") = some true)
    (ht : PySem.W.typeIn X.K (.ref Dc) = some (.type "type")) (hdb : (d == ("__debug__" : Str)) = false := by decide) : PH X (.ExceptHandler (some (.Name d np)) none (b₀ :: suite) pos :: rest) (hNo X.K Dc ts tr) := by
  with_unfolding_all
    intro pins σ H a C dx s D z h
    obtain ⟨b, he, _⟩ := h #[]
    have h' : ∀ vs', if b = true then ts D σ (upd H a (XcO a C dx vs')) else tr C a (upd H a (XcO a C dx vs')) σ D := fun vs' => by
      obtain ⟨b', he', q⟩ := h vs'
      rw [he] at he'
      cases he'
      exact q
    refine wpAny_handleBy_cons (z.test hg hm hb ht he hdb ?_) (by intro q; cases q)
    cases b with
    | false => exact hr pins σ H a C dx s D z fun vs' => by have q := h' vs'; rw [if_neg Bool.false_ne_true] at q; exact q
    | true =>
      refine codeAny_handlers_suite (z.flight fun s1 vs1 z1 => ?_)
      have q := h' vs1
      rw [if_pos rfl] at q
      exact wpAny_mono (hs a pins s1 _ _ _ (z1.I.inH a) q) (fun f s3 hsp => hsp.outH z.I.ok.hd z.I.ok.frames) fun _ _ zf => zf.elim
def tTry (tb : XK → TS) (th : TH) : TS := fun D σ H => Box (∃ W : XK, tb W D σ H ∧ ∀ C a H', (∃ dx vs, H' a = some (XcO a C dx vs)) → W (.ref C) (some a) H' → th C a H' σ D)
theorem ps_try {body : List Stmt} {h₀ : ExceptHandler} {hs : List ExceptHandler} {tb : XK → TS} {th : TH} (hst : X.stack = X.env :: X.outer) (hfm : X.env.frame = some X.env.locals) (hb : ∀ pins σ W, PSs1 (cxTry X pins σ W) σ body (tb W)) (hh : PH X (h₀ :: hs) th) :
    PS X (.Try body (h₀ :: hs) [] [] pos) (tTry tb th) := by
  with_unfolding_all
    intro pins s σ H D I h
    obtain ⟨W, hw, hc⟩ := h.un
    refine wpAny_Try_except (wpAny_mono (hb pins σ W [] s H D I.inTry hw) (fun f s1 q => ?_) fun e s1 q => ?_)
    · cases f with
      | next => exact wpAny_execs_nil q.outTry
      | brk => exact q.outTry
      | cont => exact q.outTry
      | ret u => exact q.outTry
    · obtain ⟨a, T, C, dx, vs, H1, rfl, J, F, G, hW⟩ := q
      have hfr := J.ok.frames
      have xa := F.xat J
      rw [hst] at hfr xa
      refine x_note_next (L := X.env.locals) hfr hfm xa fun h1 T1 x1 up1 hn1 => ?_
      refine x_flight (s := { s1 with heap := h1 }) x1 fun h2 x2 up2 => ?_
      rw [← hst] at x2
      obtain ⟨y1, y2, y3, vs', oT, ts, he, y4, hnT, hTe, hT, hdT, h3⟩ := x2
      obtain ⟨b1, b2, b3, b4, b5⟩ := J.beyond hn1
      have J' := J.shaken F.at_ (fun b hb => by have e : b = T := by simpa using hb
                                                rw [e]; exact F.free) (fun b hb => by have e : b = T := by simpa using hb
                                                                                      rw [e]; exact G.p) y1 (up1.trans up2) he
      refine hh pins σ _ a C dx _ D ⟨J', T1, vs', ⟨upd_same, y4, Nat.zero_le _, ?_, hTe, dict_upd F.at_ F.dict, oT, ts, hT, hdT, h3⟩, ⟨b1, b2, b3, b4⟩⟩ fun vs2 => ?_
      · rw [upd_ne hTe]; exact J.hok.fresh hn1
      · rw [upd_upd]; exact hc C a _ ⟨dx, vs2, upd_same⟩ (hW vs2)
end
end L2

set_option Elab.async false
set_option linter.all false
set_option maxRecDepth 100000
set_option maxHeartbeats 4000000
namespace L2
open PySem PySem.Spec PyProof.Rows
/-! ## exceptions in short words -/
inductive TyX (K : PySem.W.Frag) (H : Hp) : V → Value → Prop where
  | old {x : V} {t : Value} (h : TyOf K H x t) : TyX K H x t
  | exc {a C : Addr} (h : IsX K H a C) : TyX K H (.ref a) (.ref C)
section
variable {X : Cx}
theorem isX_run {pins : List (Addr × Obj)} {σ : St} {H : Hp} {s : Shared} {A : Around} {E : Value → Shared → Prop} {Q : Value → Shared → Prop} {c : Value} {b : Bool} {x : V} {u t : Value} (I : Inv X pins σ H s) (rx : RelV x u) (ty : TyX X.K H x t) (e : PySem.W.kitOne X.K t c = some b) (h : ∀ tk, Q (.bool b) { s with toks := tk }) :
    wpAny (model X.prog X.w) A (call (.builtin "isinstance") [u, c]) Q E s := by
  cases ty with
  | old ty => exact isinst_ok I rx ty e h
  | @exc a C z =>
    cases (show u = Value.ref a from rx)
    obtain ⟨dx, vs, h1, h2⟩ := z.at_
    obtain ⟨od, J⟩ := I.inst h1 h2
    obtain ⟨ini, hi⟩ := z.cls.xc
    exact PySem.W.kia_one (PySem.W.kitx_exc hi z.cls.ga z.cls.gn z.cls.hd z.cls.cl z.cls.cg z.cls.ct z.cls.mo) I.kIn J e (fun z => nomatch z) h
theorem call_isYT {n : String} : CallR X (.builtin "isinstance") (fun xs H Q => ∃ x t b, xs = [x, .ty n] ∧ TyX X.K H x t ∧ PySem.W.kitOne X.K t (.type n) = some b ∧ Q (.bl b) H) := by
  intro pins s σ H xs us Q I r h
  obtain ⟨x, t, b, rfl, ty, e, q⟩ := h
  obtain ⟨u, w', rfl, ru, rw'⟩ := vals2 r
  cases (show w' = Value.type n from rw')
  exact isX_run I ru ty e fun tk => ⟨.bl b, H, I.tok tk, rfl, q⟩
end
/-! ### facts of classes, by their rows of classes above -/
structure XD (K : PySem.W.Frag) (C : Addr) (up : List Value) : Prop where
  cd : ∃ cd, PySem.W.clsIn K C = some cd ∧ cd.mro = .ref C :: up
  ty : PySem.W.typeIn K (.ref C) = some (.type "type")
theorem XD.mro {K : PySem.W.Frag} {C : Addr} {up : List Value} (h : XD K C up) (v : Value) : PySem.W.mroIn K C v = some ((Value.ref C :: up).contains v) := by
  obtain ⟨cd, e, m⟩ := h.cd
  unfold PySem.W.mroIn
  rw [e, Option.bind_some, m, if_neg (by simp)]
structure XCal (P : Program) (w : World) (K : PySem.W.Frag) (mg : Str → Option Value) (base : Heap) (x : Str) (C : Addr) (f : Str) : Prop where
  ex : ∃ fI fd ps, XMk K C (some fI) ∧ NoAttr K C f ∧ FnOk P w K mg base CX0 1 fI fd ps (spXInit K C f) ∧ Binds K fd ps [] ∧ mg x = some (.ref C)
structure XCal0 (K : PySem.W.Frag) (mg : Str → Option Value) (x : Str) (C : Addr) : Prop where
  made : XMk K C none
  m : mg x = some (.ref C)
section
variable {X : Cx} {C : Addr} {f x : Str} {p pos : Pos} {e : Expr} {es : List Expr} {t : TA}
theorem pe_xcal (h : XCal X.prog X.w X.K X.mg X.base x C f) (hr : Room 2 X.A) (hg : Gl X x) (ha : PA X (e :: es) t) (hdb : (x == ("__debug__" : Str)) = false := by decide) (he : starEach (e :: es) X.env = (false, eval e X.env) :: starEach es X.env := by rfl) (hpl : (backTo pos (starEach es X.env)).any (·.1) = false := by rfl) :
    PE X (.Call (.Name x p) (e :: es) [] pos) (tXMake C f t) := by
  obtain ⟨fI, fd, ps, M, n, F, b, m⟩ := h.ex
  exact pe_xmake M n F hr b hg m ha hdb he hpl
theorem xinit_ok {P : Program} {w : World} {K : PySem.W.Frag} {mg : Str → Option Value} {base : Heap} {qual sf : Str} {st : Stmt} {fI : Addr} {fd : FuncData} {C : Addr} {fn : Str} {p1 p2 p3 p4 : Pos} (F : Fun K "__init__" qual st fI fd) (S : FnScope ["self", sf] ["self", sf] (defScope st))
    (hb : defBody st = [.Assign [.Attribute (.Name "self" p1) fn p2] (.Name sf p3) p4])
    (h1 : (defScope st).names.lookup ("self" : Str) = some NameKind.local) (h2 : (defScope st).names.lookup sf = some NameKind.local) (hd : (sf == ("__debug__" : Str)) = false) (hc : (sf == ("__classdict__" : Str)) = false)
    (hs : ∀ env : Env, swapsWith (.Name sf p3) (some (.Attribute (.Name "self" p1) fn p2)) p4.line env = pure false) :
    FnOk P w K mg base CX0 1 fI fd ["self", sf] (spXInit K C fn) := by
  refine F.ok S (fun vs H Q E h => ?_) (fun cdv A outer s H vs Q E hr h => ?_)
  · obtain ⟨a, v, ws, rfl, _⟩ := h
    rfl
  obtain ⟨a, v, ws, rfl, c, n, ea, q⟩ := h
  rw [hb]
  refine ⟨_, pss_one (ps_xfld (pe_var (i := 0) rfl (.inl h1) (by decide) (by decide)) (pe_var (i := 1) rfl (.inl h2) hd hc) (hs _)), ?_⟩
  exact ⟨_, rfl, _, rfl, a, C, ws, rfl, ea, c, n, fun d H3 k1 hd k2 k3 => q d H3 k1 hd k2 k3⟩
end
section
variable {X : Cx}
end
end L2

set_option Elab.async false
set_option linter.all false
set_option maxRecDepth 100000
set_option maxHeartbeats 4000000
namespace L2
open PySem PySem.Spec PyProof.Rows
section
variable {X : Cx}
end
theorem XD.base {K : PySem.W.Frag} {C : Addr} {up : List Value} (h : XD K C up) (hb : up.contains (.type "BaseException") = true) : PySem.W.mroIn K C (.type "BaseException") = some true := by
  rw [h.mro, List.contains_cons, hb, Bool.or_true]
structure Told (K : PySem.W.Frag) (H : Hp) (a C : Addr) (f : Str) (v : V) : Prop where
  ex : ∃ d ws, H a = some (XcO a C (some d) ws) ∧ H d = some (.xd [(f, v)])
theorem raise_told {K : PySem.W.Frag} {H H1 : Hp} {C : Addr} {f : Str} {v : V} {E : XK} (s0 : Same H H1) (hE : ∀ a H', Same H H' → Told K H' a C f v → E (.ref C) (some a) H') :
    ∀ a d ws H2, Same H1 H2 → H1 a = none → ws[1]? = some Value.none → H2 a = some (XcO a C (some d) ws) → H2 d = some (.xd [(f, v)]) →
      ∃ a' dx vs, V.ref a = .ref a' ∧ H2 a' = some (XcO a' C dx vs) ∧ vs[1]? = some Value.none ∧ (∀ y, dx = some y → ∃ fs, H2 y = some (.xd fs)) ∧ ∀ vs', E (.ref C) (some a') (upd H2 a' (XcO a' C dx vs')) := by
  intro a d ws H2 s1 n1 u1 e1 f1
  refine ⟨a, some d, ws, rfl, e1, u1, fun y q => by cases q; exact ⟨_, f1⟩, fun vs' => hE a _ (fun b o q => ?_) ⟨d, vs', upd_same, ?_⟩⟩
  · have na : b ≠ a := ne_of_none (s0 b o q) n1
    rw [upd_ne na]
    exact s1 b o (s0 b o q)
  · rw [upd_ne (ne_of f1 e1 (by intro z; cases z))]
    exact f1
/-! ### a claim -/
structure Cl where
  n : Int
  wt : Int
  wb : Int
  st : Int
  sb : Int
  came : Int
structure Cl.Ok (c : Cl) : Prop where
  n0 : 0 ≤ c.n
  w0 : 0 ≤ c.wt
  w1 : c.wt ≤ 1000000
  w2 : 1 ≤ c.wb
  w3 : c.wb ≤ 12
  s0 : 0 ≤ c.st
  s1 : c.st ≤ 1000000
  s2 : 1 ≤ c.sb
  s3 : c.sb ≤ 12
  c0 : 0 ≤ c.came
  c1 : c.came ≤ 1000000000000000
structure IsCl (K : PySem.W.Frag) (H : Hp) (p : Addr) (c : Cl) : Prop where
  ex : ∃ pw ps, H p = some (.tup [.int c.n, .ref pw, .ref ps, .int c.came]) ∧ H pw = some (.tup [.int c.wt, .int c.wb]) ∧ H ps = some (.tup [.int c.st, .int c.sb])
theorem IsCl.same {K : PySem.W.Frag} {H H' : Hp} {p : Addr} {c : Cl} (s : Same H H') (h : IsCl K H p c) : IsCl K H' p c := let ⟨pw, ps, a, b, d⟩ := h.ex; ⟨pw, ps, s _ _ a, s _ _ b, s _ _ d⟩
end L2

set_option Elab.async false
set_option linter.all false
set_option maxRecDepth 100000
set_option maxHeartbeats 4000000
namespace L2
open PySem PySem.Spec PyProof.Rows
/-! ## what is changed: the heap behind is a letter -/
def But (p : Addr) (H H' : Hp) : Prop := ∀ b o, b ≠ p → H b = some o → H' b = some o
theorem But.trans {p : Addr} {H H1 H2 : Hp} (a : But p H H1) (b : But p H1 H2) : But p H H2 := fun c o hc h => b c o hc (a c o hc h)
theorem Same.toBut {p : Addr} {H H' : Hp} (s : Same H H') : But p H H' := fun c o _ h => s c o h
theorem Same.but {p : Addr} {H0 H H' : Hp} (s : Same H0 H) (n : H0 p = none) (b : But p H H') : Same H0 H' := fun c o h => b c o (ne_of_none h n) (s c o h)
theorem But.upd (p : Addr) (H : Hp) (o : HO) : But p H (L2.upd H p o) := fun c u hc h => by rw [upd_ne hc]; exact h
theorem IsCl.but {K : PySem.W.Frag} {H H' : Hp} {p q : Addr} {c : Cl} {xs : List V} (b : But q H H') (hq : H q = some (.lst xs)) (h : IsCl K H p c) : IsCl K H' p c := by
  obtain ⟨pw, ps, e1, e2, e3⟩ := h.ex
  exact ⟨pw, ps, b _ _ (ne_of e1 hq (by intro z; cases z)) e1, b _ _ (ne_of e2 hq (by intro z; cases z)) e2, b _ _ (ne_of e3 hq (by intro z; cases z)) e3⟩
section
variable {X : Cx}
def rSetLS : V → V → V → Hp → (Hp → Prop) → Prop := fun o i v H Q => ∃ p xs k j, o = .ref p ∧ i = .int k ∧ H p = some (.lst xs) ∧ ixN xs.length k = some j ∧ ∀ H2, But p H H2 → H2 p = some (.lst (xs.set j v)) → Q H2
theorem set_listS : PSet X rSetLS := by
  intro pins s σ H o i v ov iv u Q I ro ri rv h
  obtain ⟨p, xs, k, j, e1, e2, hp, hj, q⟩ := h
  exact set_list pins s σ H o i v ov iv u Q I ro ri rv ⟨p, xs, k, j, e1, e2, hp, hj, q _ (But.upd p H _) upd_same⟩
def rAppendS : V → List V → Hp → VK → Prop := fun x vs H Q => ∃ l xs y, x = .ref l ∧ vs = [y] ∧ H l = some (.lst xs) ∧ xs.length < sizeLine ∧ ∀ H2, But l H H2 → H2 l = some (.lst (xs ++ [y])) → Q .non H2
theorem mt_appendS : MtR X "list.append" rAppendS := by
  intro pins s σ H x vs v us Q I rx rv h
  obtain ⟨l, xs, y, e1, e2, hp, hz, q⟩ := h
  exact mt_append pins s σ H x vs v us Q I rx rv ⟨l, xs, y, e1, e2, hp, hz, q _ (But.upd l H _) upd_same⟩
theorem call_lstS : CallR X (.type "list") (fun xs H Q => ∃ p ys, xs = [.ref p] ∧ (SqL X.K H p ys ∨ SqT X.K H p ys) ∧ ∀ l H2, Same H H2 → H l = none → H2 l = some (.lst ys) → Q (.ref l) H2) := by
  intro pins s σ H xs us Q I r h
  obtain ⟨p, ys, e, h, q⟩ := h
  exact call_list_of pins s σ H xs us Q I r ⟨p, ys, e, h, fun l n => q l _ (same_new n _) n upd_same⟩
def rSlLS (K : PySem.W.Frag) : V → Option Int → Option Int → Hp → VK → Prop := fun x lo hi H Q => ∃ a xs, x = .ref a ∧ SqL K H a xs ∧ ∀ p H2, Same H H2 → H p = none → H2 p = some (.lst (cutV xs lo hi)) → Q (.ref p) H2
theorem sl_listS : SlR X (rSlLS X.K) := by
  intro pins s σ H v u vl vu lo hi sl Q I rx hs pl pu h
  obtain ⟨a, xs, e, hx, q⟩ := h
  exact sl_list pins s σ H v u vl vu lo hi sl Q I rx hs pl pu ⟨a, xs, e, hx, fun p n => q p _ (same_new n _) n upd_same⟩
end
structure IsW (H : Hp) (p : Addr) (t b : Int) : Prop where
  at_ : H p = some (.tup [.int t, .int b])
  t0 : 0 ≤ t
  t1 : t ≤ 1000000
  b0 : 1 ≤ b
  b1 : b ≤ 12
theorem IsW.same {H H' : Hp} {p : Addr} {t b : Int} (s : Same H H') (h : IsW H p t b) : IsW H' p t b := ⟨s _ _ h.at_, h.t0, h.t1, h.b0, h.b1⟩
theorem passesE0 {X : Cx} : Passes (CX1 X.prog X.w) X E0 := by
  intro pins σ H s e s' I h
  obtain ⟨a, T, C, dx, vs, H2, rfl, os, gb, un, hok, hz, F, hE⟩ := h
  exact (hE #[]).elim
end L2

set_option Elab.async false
set_option linter.all false
namespace L2
open PySem
/-! ## two claims: who is ahead, who passes whom -/
def wtop (c : Cl) (t : Int) : Int := c.wt * c.sb + (t - c.came) * c.st * c.wb
def wbot (c : Cl) : Int := c.wb * c.sb
theorem bot_pos {c : Cl} (h : c.Ok) : 0 < wbot c := Int.mul_pos (by have := h.w2; omega) (by have := h.s2; omega)
def gap (c d : Cl) (t : Int) : Int := wtop c t * wbot d - wtop d t * wbot c
theorem gap_swap (c d : Cl) (t : Int) : gap d c t = - gap c d t := by unfold gap; omega
def tie (c d : Cl) : Bool := decide (c.came < d.came ∨ (c.came = d.came ∧ c.n < d.n))
def ahd (c d : Cl) (t : Int) : Bool := if gap c d t = 0 then tie c d else decide (0 < gap c d t)
theorem tie_swap {c d : Cl} (h : c.n ≠ d.n) : tie d c = !tie c d := by
  unfold tie
  rw [Bool.eq_iff_iff, Bool.not_eq_true', decide_eq_true_iff, decide_eq_false_iff_not]
  omega
theorem ahd_swap {c d : Cl} (h : c.n ≠ d.n) (t : Int) : ahd d c t = !ahd c d t := by
  unfold ahd
  rw [gap_swap c d t]
  by_cases z : gap c d t = 0
  · rw [if_pos (by omega), if_pos z, tie_swap h]
  · rw [if_neg (by omega), if_neg z, Bool.eq_iff_iff, Bool.not_eq_true', decide_eq_true_iff, decide_eq_false_iff_not]
    omega
inductive Pass (b l : Cl) (t : Int) : V → Prop where
  | no (h : ∀ u, t ≤ u → ahd b l u = false) : Pass b l t .non
  | at_ (u : Int) (h1 : t < u) (h2 : ahd b l u = true) (h3 : ∀ v, t ≤ v → v < u → ahd b l v = false) : Pass b l t (.int u)
structure PassOf (c d : Cl) (t : Int) (v : V) : Prop where
  one : ahd c d t = true → Pass d c t v
  two : ahd c d t = false → Pass c d t v
structure IsLc (H : Hp) (l : Addr) (n : Int) (c : Int) : Prop where
  ex : ∃ w s t b u d, H l = some (.lst [.int n, .ref w, .ref s, .int c]) ∧ IsW H w t b ∧ IsW H s u d
  c0 : 0 ≤ c
  c1 : c ≤ 1000000000000000
/-! ### products crosswise, in lowest terms or not -/
end L2

set_option Elab.async false
set_option linter.all false
set_option maxRecDepth 100000
set_option maxHeartbeats 4000000
namespace L2
open PySem PySem.Spec PyProof.Rows
/-! ## lists that are changed -/
section
variable {X : Cx}
end
end L2

set_option Elab.async false
set_option linter.all false
set_option maxRecDepth 100000
set_option maxHeartbeats 4000000
namespace L2
open PySem PySem.Spec PyProof.Rows
/-! ## enumerate -/
theorem Inv.turnedL {X : Cx} {pins : List (Addr × Obj)} {σ : St} {H : Hp} {s : Shared} {h' : Heap} {t' : Nat} {fp : List Addr} (I : Inv X pins σ H s) (k : ∀ b o, b ∉ fp → s.heap.get? b = some o → h'.get? b = some o) (hf : ∀ b ∈ fp, FpOk X pins H b) :
    Inv X pins σ H { s with heap := h', toks := t' } := by
  have nit : ∀ b u, H b = some u → b ∉ fp := fun b u e z => by rw [(hf b z).1] at e; cases e
  refine I.step (g' := s.gens) (d' := s.drawn) (ch := fp) (fun b hb => ?_) (fun b o _ _ hc e _ => k b o hc e) (fun b o _ _ hc e _ => ⟨o.slots, k b o hc e⟩) (fun _ _ _ _ n => n)
    (fun b o hc e => ⟨o, k b o hc e⟩) (fun _ _ e => e) (fun _ _ _ e => e) (fun _ _ _ e => e) (fun m hm => ?_) (fun b u e => ?_) I.bare
  · obtain ⟨f0, f1, f2, f3, f4, f5⟩ := hf b hb
    exact ⟨f3, f1, f4, f5⟩
  · obtain ⟨o, es, ep, ho, r⟩ := hm
    exact ⟨o, es, ep, k _ o (fun z => (hf _ z).2.1 rfl) ho, r⟩
  · refine (I.hok b u e).stay (fun c v hc q => k c v ?_ q) (fun _ q => q) (fun _ _ q => q) fun _ _ _ q => q
    rcases hc with z | z
    · rw [z]; exact nit b u e
    · exact nit c _ z
def Ite (K : PySem.W.Frag) (a : Addr) : It :=
  ⟨fun i H => ∃ xs x, SqL K H a xs ∧ xs[i]? = some x, fun i H x H' => ∃ p y, x = .ref p ∧ Same H H' ∧ H p = none ∧ H' p = some (.tup [.int i, y]) ∧ ∀ xs, SqL K H a xs → xs[i]? = some y, fun i H => ∃ xs, SqL K H a xs ∧ xs.length ≤ i⟩
theorem turn_enum {P : Program} {w : World} {K : PySem.W.Frag} {elts : List Expr} {x1} {pos : Pos} (a e it : Addr) (hne : e ≠ it) :
    Turn P w K (.Tuple elts x1 pos) (Ite K a) [e, it] e (fun i h => (∃ old, IsEnum h e it i old) ∧ h.IsListIter it a i) where
  mem := by simp
  obj := fun i h st b hb => by
    obtain ⟨⟨old, he⟩, o, ho, c, d⟩ := st
    rcases List.mem_cons.mp hb with rfl | hb
    · exact ⟨_, he, fun v z => by
        have z' : Data.fields _ = Data.cell v := z
        cases z'⟩
    · have e : b = it := by simpa using hb
      subst e
      exact ⟨o, ho, fun v z => by rw [d] at z; cases z⟩
  keep := fun i h h' st k => ⟨let ⟨old, he⟩ := st.1; ⟨old, k e (by simp) _ he⟩, st.2.at fun o q => k it (by simp) o q⟩
  item := by
    intro X hP hw hK hc i pins s σ H E I hf st hg
    subst hP hw hK
    obtain ⟨xs, x, hq, hx⟩ := hg
    obtain ⟨its, rv, p, hz⟩ := I.list hq
    obtain ⟨u, hu, ru⟩ := rv.get hx
    obtain ⟨⟨old, he⟩, hit⟩ := st
    have el : e < s.heap.objs.size := Heap.lt_size he
    have il : it < s.heap.objs.size := by obtain ⟨o, y, _⟩ := id hit; exact Heap.lt_size y
    refine wpAny_pyNext_enum_item he hit p.isList (x := u) (by simpa using hu) hne fun h' ho hit' hT hsz hk => ?_
    refine ⟨_, rfl, wpAny_letOwnedTupleGo_enum ho fun h'' he'' hs'' => ?_⟩
    have fr : H s.heap.objs.size = none := I.hok.fresh (Nat.le_refl _)
    have I1 : Inv X pins σ (upd H s.heap.objs.size (.tup [.int i, x])) { s with heap := s.heap.push { cls := .type "tuple", data := .seq #[.int i s.toks, u] }, toks := s.toks } :=
      I.laid (fun b o q => Heap.get?_push_of_some _ q) (Nat.le_refl _) ⟨by show 2 ≤ sizeLine; decide, [.int i s.toks, u], .cons ⟨_, rfl⟩ (.cons ru .nil), _, Heap.get?_push_size _ rfl, rfl, _, rfl⟩
    have hf1 : ∀ b ∈ [e, it], FpOk X pins (upd H s.heap.objs.size (.tup [.int i, x])) b := fun b hb => by
      have nb : b ≠ s.heap.objs.size := by
        simp only [List.mem_cons, List.not_mem_nil, or_false] at hb
        rcases hb with rfl | rfl
        · exact Nat.ne_of_lt el
        · exact Nat.ne_of_lt il
      exact ⟨by rw [upd_ne nb]; exact (hf b hb).1, (hf b hb).2⟩
    have I2 : Inv X pins σ (upd H s.heap.objs.size (.tup [.int i, x])) { s with heap := h'', toks := s.toks + 1 } := by
      refine Inv.turnedL (s := { s with heap := s.heap.push { cls := .type "tuple", data := .seq #[.int i s.toks, u] }, toks := s.toks }) (fp := [e, it]) I1 (fun b o hb q => ?_) hf1
      have q : (s.heap.push { cls := .type "tuple", data := .seq #[.int i s.toks, u] }).get? b = some o := q
      simp only [List.mem_cons, List.not_mem_nil, or_false, not_or] at hb
      refine hs''.extBut b o hb.1 ?_
      rcases Heap.get?_push_cases q with ⟨e1, e2⟩ | q'
      · subst e1 e2
        exact hT
      · exact hk b o hb.1 hb.2 q'
    refine ⟨.ref s.heap.objs.size, _, I2, rfl, ⟨_, x, rfl, same_new fr _, fr, upd_same, fun ys hy => by rw [I.list_inj hy hq]; exact hx⟩, ⟨⟨_, by simpa using he''⟩, hit'.extBut hs''.extBut (Ne.symm hne)⟩, fun b hb => (hf1 b hb).1⟩
  done := by
    intro X hP hw hK hc i pins s σ H E I hf st hg
    subst hP hw hK
    obtain ⟨xs, hq, hx⟩ := hg
    obtain ⟨its, rv, p, hz⟩ := I.list hq
    obtain ⟨f0, f1, f2, f3, f4, f5⟩ := hf it (by simp)
    obtain ⟨⟨old, he⟩, hit⟩ := st
    have hl := rv.length
    exact wpAny_pyNext_enum_end (I.ok.hd hc) he hit p.isList (by simp; omega) fun h' eb => ⟨rfl, I.turned (t' := s.toks) (fun b o hb e => eb b o hb e) f0 f1 f3 f4 f5⟩
  self := fun _ _ _ _ _ st h => let ⟨_, he⟩ := st.1; wpAny_pyIter_enum he h
theorem bt_enumerate : bootBuiltins "enumerate" = some (.type "enumerate") := by decide +kernel
def iEnum (K : PySem.W.Frag) (ta : TA) : TI := fun σ H R => ta σ H fun vs H1 => ∃ a, vs = [.ref a] ∧ (∃ xs, SqL K H1 a xs) ∧ R (Ite K a) H1
theorem pi_enum {X : Cx} {elts : List Expr} {x1} {pos' : Pos} {a : Expr} {ta : TA} {p pos : Pos} (hg : Gl X "enumerate") (hm : X.mg "enumerate" = none) (ha : PA X [a] ta) (hs : starEach [a] X.env = [(false, eval a X.env)] := by rfl) :
    PI X (.Tuple elts x1 pos') (.Call (.Name "enumerate" p) [a] [] pos) (iEnum X.K ta) := by
  with_unfolding_all
    intro pins s σ H R I h
    refine Call_ (ld_blt I hg hm bt_enumerate (PyProof.Rows.callWith_type1 (thn (ha pos pins s σ H _ I h) fun us s1 ⟨vs, H1, I1, r1, q1⟩ => ?_) hs rfl))
    obtain ⟨l, e, ⟨xs, hq⟩, q⟩ := q1
    subst e
    cases r1 with
    | cons r rr =>
      cases rr
      cases r
      obtain ⟨its, rv, pl, hz⟩ := I1.list hq
      refine call_enumerate_list pl.isList fun h' he hit hsz hk => ?_
      refine wpAny_pyIter_enum he ?_
      have I2 : Inv X pins σ H1 { s1 with heap := h', toks := s1.toks } := I1.kept hk
      refine ⟨s1.heap.objs.size + 1, [s1.heap.objs.size + 1, s1.heap.objs.size], _, _, H1, rfl, I2, turn_enum l _ _ (Nat.succ_ne_self _), ⟨⟨_, he⟩, hit⟩, fun b hb => ?_, q⟩
      simp only [List.mem_cons, List.not_mem_nil, or_false] at hb
      rcases hb with rfl | rfl
      · exact I1.fpOk (Nat.le_succ _) (I1.hok.fresh (Nat.le_succ _))
      · exact I1.fpOk (Nat.le_refl _) (I1.hok.fresh (Nat.le_refl _))
theorem for_enum {K : PySem.W.Frag} {a : Addr} {xs : List V} {g : TG} {tb : TS} {D : Ends} {σ : St} {H : Hp} (Pv : Nat → St → Hp → Prop) (h0 : Pv 0 σ H) (hl : ∀ i σ H, i ≤ xs.length → Pv i σ H → SqL K H a xs)
    (hs : ∀ i x σ H p H1, xs[i]? = some x → Pv i σ H → Same H H1 → H p = none → H1 p = some (.tup [.int i, x]) → g (.ref p) σ H1 fun σ2 H2 => tb { D with nx := Pv (i + 1), ct := Pv (i + 1), bk := D.nx } σ2 H2) (hd : ∀ σ H, Pv xs.length σ H → D.nx σ H) :
    ∃ W : Nat → Nat → St → Hp → Prop, (∃ m, W 0 m σ H) ∧ ∀ i m σ H, W i m σ H →
      ((Ite K a).stop i H ∧ D.nx σ H) ∨ ((Ite K a).go i H ∧ ∃ N : St → Hp → Prop, (∀ σ' H', N σ' H' → ∃ m', m' < m ∧ W (i + 1) m' σ' H') ∧ ∀ x H', (Ite K a).yld i H x H' → g x σ H' fun σ2 H2 => tb { D with nx := N, ct := N, bk := D.nx } σ2 H2) := by
  refine ⟨fun i m σ H => m = xs.length - i ∧ i ≤ xs.length ∧ Pv i σ H, ⟨xs.length, by simp, Nat.zero_le _, h0⟩, ?_⟩
  rintro i m σ H ⟨rfl, hi, p⟩
  have q := hl i σ H hi p
  by_cases hlt : i < xs.length
  · refine .inr ⟨⟨xs, xs[i], q, by simp [hlt]⟩, Pv (i + 1), fun σ' H' p' => ⟨xs.length - (i + 1), by omega, rfl, hlt, p'⟩, fun x H' y => ?_⟩
    obtain ⟨pp, y', rfl, sm, n0, h1, y⟩ := y
    exact hs i y' σ H pp H' (y xs q) p sm n0 h1
  · have e : i = xs.length := by omega
    subst e
    exact .inl ⟨⟨xs, q, Nat.le_refl _⟩, hd σ H p⟩
end L2

set_option Elab.async false
set_option linter.all false
set_option maxRecDepth 100000
set_option maxHeartbeats 4000000
namespace L2
open PySem PySem.Spec PyProof.Rows
section
variable {X : Cx}
end
end L2

set_option Elab.async false
set_option linter.all false
set_option maxRecDepth 100000
set_option maxHeartbeats 4000000
namespace L2
open PySem PySem.Spec PyProof.Rows
/-! ## == of things within things, that are alike -/
def refV : V → Bool
  | .ref _ => true
  | _ => false
def Deq (K : PySem.W.Frag) (H : Hp) : Nat → V → V → Prop
  | 0, x, y => x = y ∧ (flatV x = true ∨ refV x = true)
  | n + 1, x, y => (x = y ∧ (flatV x = true ∨ refV x = true)) ∨ ∃ a b xs ys, x = .ref a ∧ y = .ref b ∧ ((SqT K H a xs ∧ SqT K H b ys) ∨ (SqL K H a xs ∧ SqL K H b ys)) ∧ xs.length = ys.length ∧ ∀ (j : Nat) u v, xs[j]? = some u → ys[j]? = some v → Deq K H n u v
theorem Deq.flat {K : PySem.W.Frag} {H : Hp} {x : V} (n : Nat) (h : flatV x = true) : Deq K H n x x := by
  cases n with
  | zero => exact ⟨rfl, .inl h⟩
  | succ n => exact .inl ⟨rfl, .inl h⟩
theorem Deq.ref {K : PySem.W.Frag} {H : Hp} (n : Nat) (a : Addr) : Deq K H n (.ref a) (.ref a) := by
  cases n with
  | zero => exact ⟨rfl, .inr rfl⟩
  | succ n => exact .inl ⟨rfl, .inr rfl⟩
theorem Deq.int {K : PySem.W.Frag} {H : Hp} (n : Nat) (i : Int) : Deq K H n (.int i) (.int i) := Deq.flat n rfl
theorem Deq.tup {K : PySem.W.Frag} {H : Hp} {n : Nat} {a b : Addr} {xs ys : List V} (ha : SqT K H a xs) (hb : SqT K H b ys) (hl : xs.length = ys.length) (h : ∀ (j : Nat) u v, xs[j]? = some u → ys[j]? = some v → Deq K H n u v) : Deq K H (n + 1) (.ref a) (.ref b) :=
  .inr ⟨a, b, xs, ys, rfl, rfl, .inl ⟨ha, hb⟩, hl, h⟩
theorem Deq.lst {K : PySem.W.Frag} {H : Hp} {n : Nat} {a b : Addr} {xs ys : List V} (ha : SqL K H a xs) (hb : SqL K H b ys) (hl : xs.length = ys.length) (h : ∀ (j : Nat) u v, xs[j]? = some u → ys[j]? = some v → Deq K H n u v) : Deq K H (n + 1) (.ref a) (.ref b) :=
  .inr ⟨a, b, xs, ys, rfl, rfl, .inr ⟨ha, hb⟩, hl, h⟩
theorem eqV_self {x : V} (h : flatV x = true) : eqV x x = true := by
  cases x <;> first | (cases h; done) | simp [eqV]
theorem base_at {A : Around} {s : Shared} {x : V} {u v : Value} (rx : RelV x u) (ry : RelV x v) (h : flatV x = true ∨ refV x = true) : SeqAt.EqAt A s u v true := by
  rcases h with h | h
  · have := eqAt_V (A := A) (s := s) rx ry h h
    rw [eqV_self h] at this
    exact this
  · cases x with
    | ref a =>
      cases (show u = Value.ref a from rx)
      cases (show v = Value.ref a from ry)
      exact SeqAt.EqAt.same _
    | _ => cases h
theorem all_true (n : Nat) : (List.range n).all (fun _ => true) = true := by
  rw [List.all_eq_true]
  intro _ _
  rfl
section
variable {X : Cx} {pins : List (Addr × Obj)} {σ : St} {H : Hp} {s : Shared}
theorem row_at {A : Around} {xs ys : List V} {its its2 : List Value} (r : Vals xs its) (r2 : Vals ys its2) (h : ∀ (j : Nat) x y u v, xs[j]? = some x → ys[j]? = some y → RelV x u → RelV y v → SeqAt.EqAt A s u v true)
    (j : Nat) (h1 : j < its.toArray.size) (h2 : j < its2.toArray.size) : SeqAt.EqAt A s its.toArray[j] its2.toArray[j] true := by
  have l1 : j < xs.length := by rw [r.length]; simpa using h1
  have l2 : j < ys.length := by rw [r2.length]; simpa using h2
  obtain ⟨u, eu, ru⟩ := r.get (List.getElem?_eq_getElem l1)
  obtain ⟨v, ev, rv⟩ := r2.get (List.getElem?_eq_getElem l2)
  have e1 : its.toArray[j] = u := by
    have := (List.getElem?_eq_some_iff.mp eu).2
    simpa using this
  have e2 : its2.toArray[j] = v := by
    have := (List.getElem?_eq_some_iff.mp ev).2
    simpa using this
  rw [e1, e2]
  exact h j _ _ u v (List.getElem?_eq_getElem l1) (List.getElem?_eq_getElem l2) ru rv
theorem Deq.at (I : Inv X pins σ H s) : ∀ (n : Nat) {A : Around} {x y : V} {u v : Value}, Deq X.K H n x y → RelV x u → RelV y v → A.units + n < cLine → SeqAt.EqAt A s u v true := by
  intro n
  induction n with
  | zero =>
    intro A x y u v h rx ry hu
    obtain ⟨rfl, h⟩ := h
    exact base_at rx ry h
  | succ n ih =>
    intro A x y u v h rx ry hu
    rcases h with ⟨rfl, h⟩ | ⟨a, b, xs, ys, rfl, rfl, hs, hl, h⟩
    · exact base_at rx ry h
    cases (show u = Value.ref a from rx)
    cases (show v = Value.ref b from ry)
    by_cases ab : a = b
    · subst ab
      exact SeqAt.EqAt.same _
    refine SeqAt.EqAt.of_refs ab ?_
    have hu1 : A.in1.units + n < cLine := by rw [Around.in1_units]; omega
    rcases hs with ⟨ha, hb⟩ | ⟨ha, hb⟩
    · obtain ⟨its, r, pl, hz⟩ := I.tuple ha
      obtain ⟨its2, r2, pl2, hz2⟩ := I.tuple hb
      have e1 : its.toArray.size = xs.length := by simp [r.length]
      have e2 : its2.toArray.size = ys.length := by simp [r2.length]
      have z := SeqAt.RcAt.tuples (s := s) (e := fun _ => true) pl pl2 (show A.units < cLine by omega) (row_at r r2 fun j x y u v hx hy ru rv => ih (h j x y hx hy) ru rv hu1)
      rw [all_true, e1, e2, hl, Bool.true_and, beq_self_eq_true] at z
      exact z
    · obtain ⟨its, r, pl, hz⟩ := I.list ha
      obtain ⟨its2, r2, pl2, hz2⟩ := I.list hb
      have e1 : its.toArray.size = xs.length := by simp [r.length]
      have e2 : its2.toArray.size = ys.length := by simp [r2.length]
      have z := SeqAt.RcAt.lists (s := s) (e := fun _ => true) pl.isList pl2.isList (by omega) (show A.units < cLine by omega) (row_at r r2 fun j x y u v hx hy ru rv => ih (h j x y hx hy) ru rv hu1)
      rw [all_true] at z
      exact z
end
section
variable {X : Cx}
def rRows (K : PySem.W.Frag) (n : Nat) (x y : V) (H : Hp) : Prop := ∃ a b xs ys, x = .ref a ∧ y = .ref b ∧ ((SqT K H a xs ∧ SqT K H b ys) ∨ (SqL K H a xs ∧ SqL K H b ys)) ∧ xs.length = ys.length ∧ ∀ (j : Nat) u v, xs[j]? = some u → ys[j]? = some v → Deq K H n u v
theorem op_neD (n : Nat) (hu : X.A.units + (n + 1) < cLine) : OpR X (compareOp .NotEq) (fun x y H Q => rRows X.K n x y H ∧ Q (.bl false) H) := by
  intro pins s σ H x y v u Q I rx ry h
  obtain ⟨⟨a, b, xs, ys, rfl, rfl, hs, hl, h⟩, q⟩ := h
  cases rx
  cases ry
  have hu1 : X.A.in1.units + n < cLine := by rw [Around.in1_units]; omega
  rcases hs with ⟨ha, hb⟩ | ⟨ha, hb⟩
  · obtain ⟨its, r, pl, hz⟩ := I.tuple ha
    obtain ⟨its2, r2, pl2, hz2⟩ := I.tuple hb
    have e1 : its.toArray.size = xs.length := by simp [r.length]
    have e2 : its2.toArray.size = ys.length := by simp [r2.length]
    refine SeqAt.RcNeAt.tuples (s := s) (e := fun _ => true) pl pl2 (show X.A.units < cLine by omega) (row_at r r2 fun j x y u v hx hy ru rv => Deq.at I n (h j x y hx hy) ru rv hu1) X.prog X.w X.xe _ ⟨.bl _, H, I, rfl, ?_⟩
    rw [all_true, e1, e2, hl, Bool.true_and, beq_self_eq_true]
    exact q
  · obtain ⟨its, r, pl, hz⟩ := I.list ha
    obtain ⟨its2, r2, pl2, hz2⟩ := I.list hb
    have e1 : its.toArray.size = xs.length := by simp [r.length]
    have e2 : its2.toArray.size = ys.length := by simp [r2.length]
    refine SeqAt.RcNeAt.lists (s := s) (e := fun _ => true) pl.isList pl2.isList (by omega) (show X.A.units < cLine by omega) (row_at r r2 fun j x y u v hx hy ru rv => Deq.at I n (h j x y hx hy) ru rv hu1) X.prog X.w X.xe _ ⟨.bl _, H, I, rfl, ?_⟩
    rw [all_true]
    exact q
end
theorem Room.units9 {k : Nat} {A : Around} (r : Room k A) : A.units + (9 + 1) < cLine := by have := r.un; omega
end L2

set_option Elab.async false
set_option linter.all false
namespace L2
open PySem
/-! ## the order of claims at a turn -/
theorem gap_chain (c d e : Cl) (t : Int) : gap c e t * wbot d = gap c d t * wbot e + gap d e t * wbot c := by
  unfold gap
  rw [Int.sub_mul, Int.sub_mul, Int.sub_mul]
  rw [show wtop c t * wbot e * wbot d = wtop c t * wbot d * wbot e by ac_rfl, show wtop e t * wbot c * wbot d = wtop e t * wbot d * wbot c by ac_rfl, show wtop d t * wbot e * wbot c = wtop d t * wbot c * wbot e by ac_rfl]
  omega
theorem ahd_iff {c d : Cl} {t : Int} : ahd c d t = true ↔ 0 < gap c d t ∨ (gap c d t = 0 ∧ tie c d = true) := by
  unfold ahd
  by_cases z : gap c d t = 0
  · rw [if_pos z]
    constructor
    · intro h
      exact .inr ⟨z, h⟩
    · rintro (h | h)
      · omega
      · exact h.2
  · rw [if_neg z, decide_eq_true_iff]
    constructor
    · exact .inl
    · rintro (h | h)
      · exact h
      · exact absurd h.1 z
theorem tie_trans {c d e : Cl} (h1 : tie c d = true) (h2 : tie d e = true) : tie c e = true := by
  unfold tie at *
  rw [decide_eq_true_iff] at *
  omega
theorem ahd_trans {c d e : Cl} {t : Int} (oc : c.Ok) (od : d.Ok) (oe : e.Ok) (h1 : ahd c d t = true) (h2 : ahd d e t = true) : ahd c e t = true := by
  rw [ahd_iff] at *
  have k := gap_chain c d e t
  have b1 := bot_pos oc
  have b2 := bot_pos od
  have b3 := bot_pos oe
  have g1 : 0 ≤ gap c d t := by omega
  have g2 : 0 ≤ gap d e t := by omega
  have m1 := Int.mul_nonneg g1 (show 0 ≤ wbot e by omega)
  have m2 := Int.mul_nonneg g2 (show 0 ≤ wbot c by omega)
  rcases h1 with h1 | ⟨z1, h1⟩
  · have := Int.mul_pos h1 b3
    refine .inl (Int.not_le.mp fun le => ?_)
    have := Int.mul_nonpos_of_nonpos_of_nonneg le (show 0 ≤ wbot d by omega)
    omega
  · rcases h2 with h2 | ⟨z2, h2⟩
    · have := Int.mul_pos h2 b1
      refine .inl (Int.not_le.mp fun le => ?_)
      have := Int.mul_nonpos_of_nonpos_of_nonneg le (show 0 ≤ wbot d by omega)
      omega
    · refine .inr ⟨?_, tie_trans h1 h2⟩
      rw [z1, z2, Int.zero_mul, Int.zero_mul, Int.add_zero] at k
      rcases Int.mul_eq_zero.mp k with z | z
      · exact z
      · omega
def ins (t : Int) (c : Cl) : List Cl → List Cl
  | [] => [c]
  | d :: ds => if ahd d c t = true then d :: ins t c ds else c :: d :: ds
def ord (cs : List Cl) (t : Int) : List Cl := cs.foldl (fun acc c => ins t c acc) []
theorem ins_perm (t : Int) (c : Cl) : ∀ l, (ins t c l).Perm (c :: l)
  | [] => .refl _
  | d :: ds => by
    unfold ins
    split
    · exact ((ins_perm t c ds).cons d).trans (.swap c d ds)
    · exact .refl _
theorem ord_go_perm (t : Int) : ∀ (cs acc : List Cl), (cs.foldl (fun acc c => ins t c acc) acc).Perm (cs ++ acc)
  | [], acc => .refl _
  | c :: cs, acc => by
    rw [List.foldl_cons]
    refine (ord_go_perm t cs (ins t c acc)).trans ?_
    refine ((ins_perm t c acc).append_left cs).trans ?_
    exact List.perm_middle
theorem ord_perm (cs : List Cl) (t : Int) : (ord cs t).Perm cs := by
  have := ord_go_perm t cs []
  rw [List.append_nil] at this
  exact this
structure Good (cs : List Cl) : Prop where
  ok : ∀ c, c ∈ cs → c.Ok
  nd : (cs.map (·.n)).Nodup
abbrev Srt (t : Int) (l : List Cl) : Prop := l.Pairwise fun c d => ahd c d t = true
theorem ins_srt {t : Int} {c : Cl} (oc : c.Ok) : ∀ {l : List Cl}, (∀ d, d ∈ l → d.Ok ∧ d.n ≠ c.n) → Srt t l → Srt t (ins t c l)
  | [], _, _ => List.pairwise_singleton _ _
  | d :: ds, ho, hs => by
    obtain ⟨h1, h2⟩ := List.pairwise_cons.mp hs
    obtain ⟨od, nd⟩ := ho d (List.mem_cons_self ..)
    have ho' : ∀ e, e ∈ ds → e.Ok ∧ e.n ≠ c.n := fun e he => ho e (List.mem_cons_of_mem _ he)
    unfold ins
    split
    · rename_i hd
      refine List.pairwise_cons.mpr ⟨fun e he => ?_, ins_srt oc ho' h2⟩
      rcases List.mem_cons.mp ((ins_perm t c ds).mem_iff.mp he) with rfl | he
      · exact hd
      · exact h1 e he
    · rename_i hd
      have cd : ahd c d t = true := by
        rw [ahd_swap nd]
        simpa using hd
      refine List.pairwise_cons.mpr ⟨fun e he => ?_, hs⟩
      rcases List.mem_cons.mp he with rfl | he
      · exact cd
      · exact ahd_trans oc od (ho' e he).1 cd (h1 e he)
theorem ord_go_srt (t : Int) : ∀ (cs acc : List Cl), Good (cs ++ acc) → Srt t acc → Srt t (cs.foldl (fun acc c => ins t c acc) acc)
  | [], acc, _, h => h
  | c :: cs, acc, g, h => by
    rw [List.foldl_cons]
    have g' : Good (cs ++ ins t c acc) := by
      have pm : (cs ++ ins t c acc).Perm (c :: cs ++ acc) := ((ins_perm t c acc).append_left cs).trans List.perm_middle
      exact ⟨fun e he => g.ok e (pm.mem_iff.mp he), (pm.map (·.n)).nodup_iff.mpr g.nd⟩
    refine ord_go_srt t cs _ g' (ins_srt (g.ok c (by simp)) (fun d hd => ⟨g.ok d (by simp [hd]), fun e => ?_⟩) h)
    have nd := g.nd
    rw [List.cons_append, List.map_cons, List.nodup_cons] at nd
    exact nd.1 (by rw [← e]; exact List.mem_map.mpr ⟨d, by simp [hd], rfl⟩)
theorem ord_srt {cs : List Cl} (g : Good cs) (t : Int) : Srt t (ord cs t) := ord_go_srt t cs [] (by rw [List.append_nil]; exact g) .nil
theorem ahd_asymm {c d : Cl} {t : Int} (h1 : ahd c d t = true) (h2 : ahd d c t = true) : False := by
  rw [ahd_iff] at *
  rw [gap_swap c d t] at h2
  have z : gap c d t = 0 := by omega
  have t1 : tie c d = true := by
    rcases h1 with h | h
    · omega
    · exact h.2
  have t2 : tie d c = true := by
    rcases h2 with h | h
    · omega
    · exact h.2
  unfold tie at t1 t2
  rw [decide_eq_true_iff] at t1 t2
  omega
theorem srt_uniq {t : Int} : ∀ {l m : List Cl}, l.Perm m → Srt t l → Srt t m → l = m
  | [], m, p, _, _ => (List.Perm.nil_eq p)
  | c :: l, [], p, _, _ => absurd (List.Perm.length_eq p) (by simp)
  | c :: l, d :: m, p, hl, hm => by
    obtain ⟨l1, l2⟩ := List.pairwise_cons.mp hl
    obtain ⟨m1, m2⟩ := List.pairwise_cons.mp hm
    have e : c = d := by
      rcases List.mem_cons.mp (p.mem_iff.mp (List.mem_cons_self (a := c) (l := l))) with e | hc
      · exact e
      · rcases List.mem_cons.mp (p.mem_iff.mpr (List.mem_cons_self (a := d) (l := m))) with e | hd
        · exact e.symm
        · exact (ahd_asymm (l1 d hd) (m1 c hc)).elim
    subst e
    rw [srt_uniq ((List.perm_cons c).mp p) l2 m2]
theorem ord_uniq {cs l : List Cl} {t : Int} (g : Good cs) (p : l.Perm cs) (h : Srt t l) : l = ord cs t := srt_uniq (p.trans (ord_perm cs t).symm) h (ord_srt g t)
end L2

set_option Elab.async false
set_option linter.all false
set_option maxRecDepth 100000
set_option maxHeartbeats 4000000
namespace L2
open PySem PySem.Spec PyProof.Rows
theorem comp_list {K : PySem.W.Frag} {a : Addr} {xs : List V} {js : List Nat} {tc : TT} {te : TE} {σ : St} {H1 : Hp} {Q : VK} (p : Nat → Bool) (f : Nat → V) (hl : SqL K H1 a xs)
    (ht : ∀ i x Hh (Q' : Bool → Hp → Prop), xs[i]? = some x → Same H1 Hh → (∀ Hh', Same Hh Hh' → Q' (p i) Hh') → tc (some x :: caps σ js) Hh Q')
    (he : ∀ i x Hh (Q' : VK), xs[i]? = some x → p i = true → Same H1 Hh → (∀ Hh', Same Hh Hh' → Q' (f i) Hh') → te (some x :: caps σ js) Hh Q')
    (hz : xs.length < sizeLine) (q : ∀ D H2, Same H1 H2 → H1 D = none → H2 D = some (.lst (((List.range xs.length).filter p).map f)) → Q (.ref D) H2) :
    CompGo (Itl K a) js tc te σ H1 Q := by
  intro D H2 s2 hD h2
  refine ⟨fun i m acc H3 => m = xs.length - i ∧ i ≤ xs.length ∧ acc = ((List.range i).filter p).map f ∧ Same H1 H3 ∧ H3 D = some (.lst acc), ⟨_, rfl, Nat.zero_le _, by simp, s2, h2⟩, ?_⟩
  rintro i m acc H3 ⟨rfl, hi, ea, s3, h3⟩
  have hl3 : SqL K H3 a xs := s3.seq hl
  have hll : acc.length ≤ xs.length := by
    rw [ea, List.length_map]
    refine Nat.le_trans (List.length_filter_le _ _) ?_
    rw [List.length_range]
    exact hi
  refine ⟨h3, by omega, ?_⟩
  by_cases hlt : i < xs.length
  · have hx : xs[i]? = some xs[i] := List.getElem?_eq_getElem hlt
    refine .inr ⟨⟨xs, _, hl3, hx⟩, fun y H4 z => ?_⟩
    obtain ⟨e, ey⟩ := z
    have ey2 := ey xs hl3
    subst e
    refine ht i y _ _ ey2 s3 fun H5 s5 => ?_
    have h5 := s5 _ _ h3
    have s35 := s3.trans s5
    have tk : (List.range (i + 1)).filter p = (List.range i).filter p ++ (if p i = true then [i] else []) := by
      rw [List.range_succ, List.filter_append]
      congr 1
      cases h : p i <;> simp [h]
    cases hp : p i with
    | true =>
      refine iteT (he i y _ _ ey2 hp s35 fun H6 s6 => ⟨s6 _ _ h5, fun H7 k7 h7 => ⟨xs.length - (i + 1), by omega, rfl, hlt, ?_, fun b o e => ?_, h7⟩⟩)
      · rw [tk, hp, if_pos rfl, List.map_append, ← ea]
        rfl
      · by_cases hb : b = D
        · subst hb
          rw [hD] at e
          cases e
        · exact k7 b o hb (s6 b o (s35 b o e))
    | false =>
      refine iteF ⟨xs.length - (i + 1), by omega, rfl, hlt, ?_, s35, h5⟩
      rw [tk, hp, if_neg Bool.false_ne_true, List.append_nil]
      exact ea
  · have e : i = xs.length := by omega
    subst e
    refine .inl ⟨⟨xs, hl3, Nat.le_refl _⟩, ?_⟩
    rw [ea] at h3
    exact q D _ s3 hD h3
theorem filter_all (n : Nat) : (List.range n).filter (fun _ => true) = List.range n := by
  rw [List.filter_eq_self]
  intro _ _
  rfl
def itm {α : Type} (xs : List α) (g : α → V) (i : Nat) : V := match xs[i]? with
  | some x => g x
  | none => .non
theorem itm_map {α : Type} (g : α → V) : ∀ xs : List α, (List.range xs.length).map (itm xs g) = xs.map g
  | [] => rfl
  | x :: xs => by
    rw [List.length_cons, List.range_succ_eq_map, List.map_cons, List.map_map, List.map_cons, ← itm_map g xs]
    congr 1
/-! ### claims in a list -/
structure IsCs (K : PySem.W.Frag) (H : Hp) (l : Addr) (ps : List (Addr × Cl)) : Prop where
  at_ : H l = some (.lst (ps.map fun q => V.ref q.1))
  cl : ∀ q, q ∈ ps → IsCl K H q.1 q.2
theorem IsCs.same {K : PySem.W.Frag} {H H' : Hp} {l : Addr} {ps : List (Addr × Cl)} (s : Same H H') (h : IsCs K H l ps) : IsCs K H' l ps := ⟨s _ _ h.at_, fun q hq => (h.cl q hq).same s⟩
/-! ### the laws' draws -/
theorem at_3 (x y z : V) {r : Int} (h0 : 0 ≤ r) (h1 : r < 3) : ∃ v, atI [x, y, z] r = some v ∧ (v = x ∨ v = y ∨ v = z) := by
  rcases (by omega : r = 0 ∨ r = 1 ∨ r = 2) with rfl | rfl | rfl
  · exact ⟨x, rfl, .inl rfl⟩
  · exact ⟨y, rfl, .inr (.inl rfl)⟩
  · exact ⟨z, rfl, .inr (.inr rfl)⟩
structure St3 (H : Hp) (a : Addr) : Prop where
  ex : ∃ p q r : Int, H a = some (.lst [.int p, .int q, .int r])
theorem at_4 (x y z u : V) {r : Int} (h0 : 0 ≤ r) (h1 : r < 4) : ∃ v, atI [x, y, z, u] r = some v ∧ (v = x ∨ v = y ∨ v = z ∨ v = u) := by
  rcases (by omega : r = 0 ∨ r = 1 ∨ r = 2 ∨ r = 3) with rfl | rfl | rfl | rfl
  · exact ⟨x, rfl, .inl rfl⟩
  · exact ⟨y, rfl, .inr (.inl rfl)⟩
  · exact ⟨z, rfl, .inr (.inr (.inl rfl))⟩
  · exact ⟨u, rfl, .inr (.inr (.inr rfl))⟩
theorem lex_tie (c d : Cl) : HT.lexLt [c.came, c.n] [d.came, d.n] = tie c d := by
  rw [HT.lexLt_cons, HT.lexLt_cons, HT.lexLt_nil_nil]
  unfold tie
  by_cases k : c.came = d.came
  · rw [if_pos k]
    by_cases k2 : c.n = d.n
    · rw [if_pos k2, eq_comm, decide_eq_false_iff_not]
      omega
    · rw [if_neg k2, decide_eq_decide]
      omega
  · rw [if_neg k, decide_eq_decide]
    omega
section
variable {X : Cx} {tg : Expr}
end
end L2

set_option Elab.async false
set_option linter.all false
set_option maxRecDepth 100000
set_option maxHeartbeats 4000000
namespace L2
open PySem PySem.Spec PyProof.Rows
theorem ps_setC {X : Cx} {iter elt : Expr} {x y : Str} {i : Nat} {px py spos : Pos} {ifs : List Expr} {scope : Scope} {pos : Pos} {wi : TI} {N : List Str} {js : List Nat} {tc : TT} {te : TE}
    (hN : X.N.Nodup) (hiN : X.N[i]? = some y) (hyl : X.env.scope.names.lookup y = some .local)
    (hc : X.calm = true) (S : CompScope X scope x N js) (hi : PI X (.Name x px) iter wi)
    (ht : ∀ cl C s₀ H₀ ex, CTests (cxComp X N scope cl C s₀ H₀ ex) ifs tc) (he : ∀ cl C s₀ H₀ ex, PE (cxComp X N scope cl C s₀ H₀ ex) elt te)
    (hsw : swapsWith (.ListComp elt [⟨.Name x px, iter, ifs, 0⟩] scope pos) (some (.Name y py)) spos.line X.env = pure true := by rfl)
    (hs : ∀ x, foldedSetIterable iter X.env x = pure x := by intro _; rfl) :
    PS X (.Assign [.Name y py] (.ListComp elt [⟨.Name x px, iter, ifs, 0⟩] scope pos) spos) (tAsg (tComp wi js tc te) (gName i)) := by
  with_unfolding_all
    intro pins s σ H DD I h
    have hcells : ∀ y ∈ scope.names, y.2 = .free → ∃ c, X.env.cells.lookup y.1 = some c := fun y hy hf => I.ok.has y.1 (.inl (S.free y hy hf))
    obtain ⟨cl, ecl, cl1, cl2⟩ := closure_of hcells
    rw [exec_Assign_Name_used _ _ _ _ hsw]
    refine wpAny_bind (wpAny_standAt (wpAny_bind ?_))
    show wpAny _ X.A (do let _ ← comprehension (.ListComp elt [⟨.Name x px, iter, ifs, 0⟩] scope pos) scope X.env _ (newList []) false (eval iter X.env) (some (assign (.Name y py) X.env))) _ _ s
    refine wpAny_bind (wpAny_mono (wpAny_comprehension_free (use := some (assign (.Name y py) X.env)) (Q := fun _ s' => SP X pins DD .next s') rfl hs ecl S.kind S.loc (thn (hi pins s σ H _ I h) fun v s1 h1 => thn h1 fun itv s2 h2 => ?_)) (fun _ s' hq => wpAny_pure (wpAny_pure hq)) fun _ _ e => e)
    obtain ⟨it, fp, tn, J, H2, e, I2, T, st2, f2, q2⟩ := h2
    subst e
    refine wpAny_newObj_type (wpAny_newFunctionEnv S.nocell (by intro y hy; simp at hy) (fun h₁ hns₁ hsb₁ => ?_) S.kind)
    dsimp only at hns₁ hsb₁ ⊢
    generalize hP2 : s2.heap.push { cls := .type "list", dict := none, data := .seq ([] : List Value).toArray } = P2 at hns₁ hsb₁ ⊢
    have hC : P2.objs.size = s2.heap.objs.size + 1 := by rw [← hP2, Heap.size_push]
    have below : ∀ b, b < s2.heap.objs.size → b ≠ P2.objs.size ∧ b ≠ s2.heap.objs.size := fun b hb => ⟨by rw [hC]; exact Nat.ne_of_lt (Nat.lt_succ_of_lt hb), Nat.ne_of_lt hb⟩
    have hDC : s2.heap.objs.size ≠ P2.objs.size := by rw [hC]; exact Nat.ne_of_lt (Nat.lt_succ_self _)
    have old : ∀ b o, s2.heap.get? b = some o → h₁.get? b = some o := fun b o e => hsb₁.extBut b o (below b (Heap.lt_size e)).1 (Heap.get?_push_of_some _ (hP2 ▸ Heap.get?_push_of_some _ e))
    have hD : h₁.get? s2.heap.objs.size = some { cls := .type "list", dict := none, data := .seq ([] : List Value).toArray } := hsb₁.extBut _ _ hDC (Heap.get?_push_of_some _ (hP2 ▸ Heap.get?_push_size _ rfl))
    have hDn : H2 s2.heap.objs.size = none := I2.hok.fresh (Nat.le_refl _)
    have hCn : H2 P2.objs.size = none := I2.hok.fresh (by rw [hC]; exact Nat.le_succ _)
    obtain ⟨W, ⟨m0, w0⟩, turn⟩ := q2 s2.heap.objs.size _ (same_new hDn (.lst [])) hDn upd_same
    -- the block's context
    have fpl : ∀ b ∈ fp, b < s2.heap.objs.size := fun b hb => by
      obtain ⟨o, e, _⟩ := T.obj 0 _ st2 b hb
      exact Heap.lt_size e
    have yok : (cxComp X N scope cl P2.objs.size s2 H2 fp).Ok :=
      { mod := I2.ok.mod
        kind := S.kind
        glob := I2.ok.glob
        blt := I2.ok.blt
        above := by show s2.heap.objs.size ≤ P2.objs.size; rw [hC]; exact Nat.le_succ _
        inj := fun y z c h1 h2 => I2.ok.inj y z c (cl1 y c h1) (cl1 z c h2)
        has := fun y hy => by
          have hy' : (y, NameKind.free) ∈ scope.names := by
            rcases hy with hy | hy
            · exact relabel_cell (env := X.env) hy (.inl rfl) S.nocell
            · exact relabel_cell (env := X.env) hy (.inr rfl) S.nocell
          exact cl2 y hy'
        cab := fun y c hf _ => by cases hf
        hd := fun hc' => I2.ok.hd hc'
        frames := I2.ok.frames
        stk := .inl rfl
        exf := fun b hb => ⟨(below b (fpl b hb)).1, fun y c e => (f2 b hb).2.2.2.2.1 y c (cl1 y c e)⟩
        bs := I2.bs
        bsz := Nat.le_trans I2.ok.bsz I2.sz
        noex := fun b o e hb => by
          rcases (f2 b hb).2.2.2.1 with z | z
          · exact I2.ok.noex b o e z
          · exact absurd (Nat.lt_of_lt_of_le (Nat.lt_of_lt_of_le (Heap.lt_size e) I2.ok.bsz) z) (Nat.lt_irrefl _)
        exfs := fun b hb hf => by
          rcases List.mem_cons.mp (I2.stkSub b hf) with z | z
          · exact (f2 b hb).2.1 z
          · exact (f2 b hb).2.2.1 z
        funs := I2.stack
        frf := I2.stkFree }
    have hokD : HOk X.prog X.w (upd H2 s2.heap.objs.size (.lst [])) h₁ := I2.hok.laid old (Nat.le_refl _) ⟨Nat.zero_le _, [], 0, .nil, hD⟩
    have I3 : Inv (cxComp X N scope cl P2.objs.size s2 H2 fp) [] (none :: caps σ js) (upd H2 s2.heap.objs.size (.lst [])) { s2 with heap := h₁, toks := s2.toks + ([] : List (Str × Value)).length } :=
      { ok := yok
        os := rfl
        bare := I2.bare
        base := Un.laid old (Nat.le_refl _) hDn
        loc := by
          refine ⟨_, hns₁, fun i y v e1 e2 e3 => ?_⟩
          cases i with
          | zero => simp at e2
          | succ k =>
            have e2' : (caps σ js)[k]? = some (some v) := by simpa using e2
            unfold caps at e2'
            rw [List.getElem?_map] at e2'
            cases ej : js[k]? with
            | none => rw [ej] at e2'; cases e2'
            | some j =>
              rw [ej] at e2'
              have e4 : (σ[j]?).join = some v := Option.some.inj e2'
              have e5 : σ[j]? = some (some v) := by
                cases eσ : σ[j]? with
                | none => rw [eσ] at e4; cases e4
                | some o => rw [eσ] at e4; exact congrArg some e4
              obtain ⟨n1, n2, n3, n4⟩ := S.cap k j y e1 ej
              obtain ⟨mX, _, lX⟩ := I2.loc
              obtain ⟨u, ru, lk⟩ := lX j y v n1 e5 n2
              refine ⟨u, ru, ?_⟩
              rcases lk with ⟨lk, _⟩ | ⟨_, c, ec, cell⟩
              · rw [n3] at lk; cases lk
              · obtain ⟨c', ec'⟩ := cl2 y n4
                have : c' = c := Option.some.inj ((cl1 y c' ec').symm.trans ec)
                subst this
                obtain ⟨o, ho, hd⟩ := cell
                refine .inr ⟨?_, c', ec', ⟨o, old _ _ ho, hd⟩⟩
                -- the name is a cell or free in the block
                have e3' : (relabel scope X.env).names.lookup y = some .local ∨ (relabel scope X.env).names.lookup y = some .cell ∨ (relabel scope X.env).names.lookup y = some .free := e3
                rcases e3' with z | z | z
                · exfalso
                  have hm := PySem.mem_of_lookup z
                  obtain ⟨⟨n, k'⟩, hn, e⟩ := List.mem_map.mp hm
                  dsimp only at e
                  by_cases cc : (k' == NameKind.free && X.env.scope.kind == .function && X.env.kindOf n == some .cell) = true
                  · rw [if_pos cc] at e
                    cases e
                  · rw [if_neg cc] at e
                    cases e
                    have l1 := S.loc _ hn rfl
                    have l2 := lookup_relabel_local (env := X.env) l1
                    have f1 := S.free _ n4 rfl
                    exact S.apart y l1 n4
                · exact .inl z
                · exact .inr z
        cell := fun y c e => by
          obtain ⟨v, o, ho, hd⟩ := I2.cell y c (cl1 y c e)
          exact ⟨v, o, old _ _ ho, hd⟩
        free := by show upd H2 s2.heap.objs.size (.lst []) P2.objs.size = none; rw [upd_ne (Ne.symm hDC)]; exact hCn
        freeC := fun y c e => by
          obtain ⟨v, o, ho, hd⟩ := I2.cell y c (cl1 y c e)
          rw [upd_ne (below c (Heap.lt_size ho)).2]
          exact I2.freeC y c (cl1 y c e)
        pin := fun p hp => by simp at hp
        hok := hokD
        len := by show (none :: caps σ js).length = N.length; rw [S.len]; simp [caps] }
    have st3 : tn 0 h₁ := T.keep 0 _ _ st2 fun b _ o e => old b o e
    have fr3 : ∀ b ∈ fp, (upd H2 s2.heap.objs.size (.lst [])) b = none := fun b hb => by
      rw [upd_ne (below b (fpl b hb)).2]
      exact (f2 b hb).1
    -- what stays true of the iterator's objects
    have stat : ∀ {H' : Hp}, (∀ b ∈ fp, H' b = none) → ∀ b ∈ fp, FpOk (cxComp X N scope cl P2.objs.size s2 H2 fp) [] H' b := fun hn b hb =>
      ⟨hn b hb, (below b (fpl b hb)).1, yok.exfs b hb, .inl hb, fun y c e => (f2 b hb).2.2.2.2.1 y c (cl1 y c e), fun p hp => by simp at hp⟩
    have pgn : PG (cxComp X N scope cl P2.objs.size s2 H2 fp) (.Name x px) (gName 0) := pg_name S.nd S.head (.inl (lookup_relabel_local S.own)) (.inr (lookup_relabel_local S.own))
    have loop : ∀ s₃ : Shared, s₃ = { s2 with heap := h₁, toks := s2.toks + ([] : List (Str × Value)).length } →
        codeAny (model X.prog X.w) X.A (.compLoop (.ListComp elt [⟨.Name x px, iter, ifs, 0⟩] scope pos) 0 (.ref it) (.ref s2.heap.objs.size) (compEnvC scope cl P2.objs.size X.env))
          (compPost (model X.prog X.w) X.A X.xe (some (assign (.Name y py) X.env)) (fun _ s' => SP X pins DD .next s') (.ref s2.heap.objs.size) P2.objs.size) s₃ := by
      rintro s₃ rfl
      refine codeAny_loop rfl (fun n s' => ∃ i o acc H', Inv (cxComp X N scope cl P2.objs.size s2 H2 fp) [] (o :: caps σ js) H' s' ∧ tn i s'.heap ∧ (∀ b ∈ fp, H' b = none) ∧ W i n acc H') ?_ m0 ⟨0, none, [], _, I3, st3, fr3, w0⟩
      rintro n s4 ⟨i, o, acc, H4, I4, st4, fr4, w4⟩
      show wpAny _ X.A ((compTurn (.ListComp elt [⟨.Name x px, iter, ifs, 0⟩] scope pos) 0 (.ref it) (.ref s2.heap.objs.size) (compEnvC scope cl P2.objs.size X.env)).onRaise (fun x => do noteFrame x (compEnvC scope cl P2.objs.size X.env); theTreesLotGoes x)) _ _ s4
      refine wpAny_noted ?_
      rw [compTurn_list]
      refine wpAny_bind (wpAny_standAt (wpAny_bind ?_))
      obtain ⟨hD4, hz4, alt⟩ := turn i n acc H4 w4
      rcases alt with ⟨stop, qn⟩ | ⟨go, step⟩
      · refine thn (T.done (cxComp X N scope cl P2.objs.size s2 H2 fp) rfl rfl rfl hc i [] s4 _ H4 _ I4 (stat fr4) st4 stop) fun r s5 ⟨hr, I5⟩ => ?_
        subst hr
        refine wpAny_pure ?_
        obtain ⟨m5, n5, _⟩ := I5.loc
        have u5 := I5.base
        have nC : ∀ b o, s2.heap.get? b = some o → b ≠ P2.objs.size := fun b o e => (below b (Heap.lt_size e)).1
        have IX : Inv X pins σ H4 s5 := by
          refine I2.call' (s' := s5) (ch := fp) I5.os ?_ I5.hok I5.bare fun b hb => ⟨(f2 b hb).2.2.2.1, (f2 b hb).2.1, (f2 b hb).2.2.2.2.1, (f2 b hb).2.2.2.2.2⟩
          exact ⟨u5.keep, u5.slot, u5.free, u5.there, u5.tups, u5.frzs, u5.tbls⟩
        obtain ⟨g0, g1, g2, g3, g4, g5⟩ := I2.fpOk (b := P2.objs.size) (H' := H4) (by rw [hC]; exact Nat.le_succ _) I5.free
        refine wpAny_assign_Name (store_ok2 IX hN hiN (.inl hyl) (v := .ref s2.heap.objs.size) rfl (fun s6 I6 ⟨aa, sb6, ha⟩ => ?_) (.inr hyl))
        have hCa : P2.objs.size ≠ aa := by
          rcases ha with rfl | ha
          · exact g1
          · exact fun z => g4 _ _ ha z.symm
        refine ⟨m5, n5.sameBut sb6 hCa, fun h' sb => ⟨_, H4, ?_, qn⟩⟩
        exact I6.turned (t' := s6.toks) (fun b o hb e => sb.extBut b o hb e) g0 g1 g3 g4 g5
      · refine thn (T.item (cxComp X N scope cl P2.objs.size s2 H2 fp) rfl rfl rfl hc i [] s4 _ H4 _ I4 (stat fr4) st4 go) fun r s5 ⟨u, hr, h5⟩ => ?_
        subst hr
        refine wpAny_bind (thn h5 fun _ s6 ⟨y, H6, I6, r6, y6, st6, fr6⟩ => ?_)
        have I6' := I6.pinned (stat fr6) (T.obj _ _ st6)
        refine wpAny_bind (wpAny_mono (pgn _ s6 (o :: caps σ js) H6 y u (fun σ' H' => σ' = some y :: caps σ js ∧ H' = H6) I6' r6 ⟨rfl, rfl⟩) (fun _ s7 ⟨σ7, H7, I7, e7, e8⟩ => ?_) fun _ _ z => z.elim)
        subst e7 e8
        have back : ∀ {s9 : Shared} {H9 : Hp} {acc9 : List V} {m9 : Nat}, Inv (cxComp X N scope cl P2.objs.size s2 H2 fp) ([] ++ pinsAt fp s6.heap) (some y :: caps σ js) H9 s9 → m9 < n → W (i + 1) m9 acc9 H9 →
            ∃ m, m < n ∧ ∃ i o acc H', Inv (cxComp X N scope cl P2.objs.size s2 H2 fp) [] (o :: caps σ js) H' s9 ∧ tn i s9.heap ∧ (∀ b ∈ fp, H' b = none) ∧ W i m acc H' := fun {s9 H9 acc9 m9} I9 hm w9 => by
          refine ⟨m9, hm, i + 1, some y, acc9, H9, I9.unpinned, T.keep _ _ _ st6 fun b hb o e => (I9.pin (b, o) (List.mem_append_right _ (List.mem_append_right _ (mem_pinsAt hb e)))).1, fun b hb => ?_, w9⟩
          obtain ⟨o, e, d⟩ := T.obj _ _ st6 b hb
          exact (I9.pin (b, o) (List.mem_append_right _ (List.mem_append_right _ (mem_pinsAt hb e)))).2.1
        refine wpAny_bind (wpAny_mono (ht cl _ s2 H2 fp _ s7 _ _ _ I7 (step y _ y6)) (fun ok s8 ⟨H8, I8, q8⟩ => ?_) fun _ _ z => z.elim)
        cases ok with
        | false =>
          obtain ⟨m9, hm, w9⟩ := q8
          exact wpAny_pure ⟨rfl, back I8 hm w9⟩
        | true =>
          refine wpAny_bind (wpAny_bind (wpAny_mono (he cl _ s2 H2 fp _ s8 _ _ _ I8 q8) (fun xv s9 ⟨v9, H9, I9, r9, hD9, q9⟩ => ?_) fun _ _ z => z.elim))
          refine wpAny_bind (wpAny_mono (mt_append (X := cxComp X N scope cl P2.objs.size s2 H2 fp) _ s9 _ H9 (.ref s2.heap.objs.size) [v9] (.ref s2.heap.objs.size) [xv] (fun _ H' => H' = upd H9 s2.heap.objs.size (.lst (acc ++ [v9]))) I9 rfl (.cons r9 .nil) ⟨_, acc, v9, rfl, rfl, hD9, hz4, rfl⟩) (fun _ s10 ⟨v10, H10, I10, _, e10⟩ => ?_) fun _ _ z => z.elim)
          subst e10
          obtain ⟨m9, hm, w9⟩ := q9 _ (fun b o hb e => by rw [upd_ne hb]; exact e) upd_same
          exact wpAny_pure (wpAny_pure ⟨rfl, back I10 hm w9⟩)
    exact codeAny_compStart_list (loop _ rfl) (T.self _ 0 _ _ _ st3 (loop _ rfl))
end L2

set_option Elab.async false
set_option linter.all false
set_option maxRecDepth 100000
namespace L2
open PySem PySem.Spec PyProof.Rows
theorem bt_any : bootBuiltins "any" = some (.builtin "any") := by decide +kernel
section
variable {X : Cx}
end
end L2

set_option Elab.async false
set_option linter.all false
namespace L2
open PySem.W PyProof.Rows
/-! ## the sort of few items, by what it asks: a strict order of unlike items -/
structure Tot (n : Nat) (lt : Nat → Nat → Bool) : Prop where
  asym : ∀ i j, i < n → j < n → lt i j = true → lt j i = false
  tot : ∀ i j, i < n → j < n → i ≠ j → lt i j = false → lt j i = true
  trans : ∀ i j k, i < n → j < n → k < n → lt i j = true → lt j k = true → lt i k = true
def Asks {α : Type} (n : Nat) (lt : Nat → Nat → Bool) : KasT α → (α → Prop) → Prop
  | .ret a, Q => Q a
  | .ask i j k, Q => i < n ∧ j < n ∧ i ≠ j ∧ Asks n lt (k (lt i j)) Q
theorem Asks.bind {α β : Type} {n : Nat} {lt : Nat → Nat → Bool} {f : α → KasT β} {R : α → Prop} {Q : β → Prop} (hf : ∀ a, R a → Asks n lt (f a) Q) : ∀ (t : KasT α), Asks n lt t R → Asks n lt (t.bind f) Q
  | .ret a, h => hf a h
  | .ask i j k, ⟨h1, h2, h3, h4⟩ => ⟨h1, h2, h3, Asks.bind hf (k (lt i j)) h4⟩
theorem Asks.mono {α : Type} {n : Nat} {lt : Nat → Nat → Bool} {R Q : α → Prop} (hf : ∀ a, R a → Q a) : ∀ (t : KasT α), Asks n lt t R → Asks n lt t Q
  | .ret a, h => hf a h
  | .ask i j k, ⟨h1, h2, h3, h4⟩ => ⟨h1, h2, h3, Asks.mono hf (k (lt i j)) h4⟩
structure Pm (n : Nat) (p : Array Nat) : Prop where
  pm : p.toList.Perm (List.range n)
theorem Pm.sz {n : Nat} {p : Array Nat} (h : Pm n p) : p.size = n := by
  have := h.pm.length_eq
  simpa using this
theorem atq (p : Array Nat) (i : Nat) : p.getD i 0 = (p[i]?).getD 0 := by
  rw [Array.getD_eq_getD_getElem?]
theorem Pm.lt {n : Nat} {p : Array Nat} (h : Pm n p) {i : Nat} (hi : i < n) : p.getD i 0 < n := by
  have hs : i < p.size := by rw [h.sz]; exact hi
  have m : p.getD i 0 ∈ p.toList := by
    rw [atq, Array.getElem?_eq_getElem hs]
    simp
  exact List.mem_range.mp (h.pm.mem_iff.mp m)
theorem Pm.inj {n : Nat} {p : Array Nat} (h : Pm n p) {i j : Nat} (hi : i < n) (hj : j < n) (e : p.getD i 0 = p.getD j 0) : i = j := by
  have hs : i < p.size := by rw [h.sz]; exact hi
  have ht : j < p.size := by rw [h.sz]; exact hj
  have nd : p.toList.Nodup := h.pm.nodup_iff.mpr List.nodup_range
  rw [atq, atq, Array.getElem?_eq_getElem hs, Array.getElem?_eq_getElem ht] at e
  have e' : p.toList[i]'(by simpa using hs) = p.toList[j]'(by simpa using ht) := by simpa using e
  exact (List.getElem_inj nd).mp e'
def Sd (lt : Nat → Nat → Bool) (p : Array Nat) (k : Nat) : Prop := ∀ i j, i < j → j < k → lt (p.getD i 0) (p.getD j 0) = true
def Dd (lt : Nat → Nat → Bool) (p : Array Nat) (k : Nat) : Prop := ∀ i j, i < j → j < k → lt (p.getD j 0) (p.getD i 0) = true
section
variable {n : Nat} {lt : Nat → Nat → Bool} (T : Tot n lt)
include T
theorem asc_ok {p : Array Nat} (P : Pm n p) : ∀ f a, 1 ≤ a → a + f ≤ n → Sd lt p a → Asks n lt (kas_asc p f a) (fun m => a ≤ m ∧ m ≤ a + f ∧ Sd lt p m ∧ (m < a + f → lt (p.getD m 0) (p.getD (m - 1) 0) = true))
  | 0, a, h1, h2, s => ⟨Nat.le_refl _, Nat.le_refl _, s, fun z => by omega⟩
  | f + 1, a, h1, h2, s => by
    refine ⟨P.lt (by omega), P.lt (by omega), fun e => ?_, ?_⟩
    · have := P.inj (by omega) (by omega) e
      omega
    · cases c : lt (p.getD a 0) (p.getD (a - 1) 0) with
      | true => exact ⟨Nat.le_refl _, by omega, s, fun _ => c⟩
      | false =>
        have c' := T.tot _ _ (P.lt (i := a) (by omega)) (P.lt (i := a - 1) (by omega)) (fun e => by have := P.inj (by omega) (by omega) e; omega) c
        have s' : Sd lt p (a + 1) := fun i j ij ja => by
          by_cases z : j < a
          · exact s i j ij z
          · have : j = a := by omega
            subst this
            by_cases y : i = j - 1
            · rw [y]; exact c'
            · exact T.trans _ (p.getD (j - 1) 0) _ (P.lt (by omega)) (P.lt (by omega)) (P.lt (by omega)) (s i (j - 1) (by omega) (by omega)) c'
        have r := asc_ok P f (a + 1) (by omega) (by omega) s'
        refine Asks.mono (fun m hm => ?_) _ r
        exact ⟨by omega, by omega, hm.2.2.1, fun z => hm.2.2.2 (by omega)⟩
theorem desc_ok {p : Array Nat} (P : Pm n p) : ∀ f a, 1 ≤ a → a + f ≤ n → Dd lt p a → Asks n lt (kas_desc f p a 0) (fun r => r.1 = p ∧ r.2.2 = 0 ∧ a ≤ r.2.1 ∧ r.2.1 ≤ a + f ∧ Dd lt p r.2.1)
  | 0, a, h1, h2, s => ⟨rfl, rfl, Nat.le_refl _, Nat.le_refl _, s⟩
  | f + 1, a, h1, h2, s => by
    have ne : p.getD a 0 ≠ p.getD (a - 1) 0 := fun e => by have := P.inj (by omega) (by omega) e; omega
    refine ⟨P.lt (by omega), P.lt (by omega), ne, ?_⟩
    cases c : lt (p.getD a 0) (p.getD (a - 1) 0) with
    | true =>
      have s' : Dd lt p (a + 1) := fun i j ij ja => by
        by_cases z : j < a
        · exact s i j ij z
        · have : j = a := by omega
          subst this
          by_cases y : i = j - 1
          · rw [y]; exact c
          · exact T.trans _ (p.getD (j - 1) 0) _ (P.lt (by omega)) (P.lt (by omega)) (P.lt (by omega)) c (s i (j - 1) (by omega) (by omega))
      have r := desc_ok P f (a + 1) (by omega) (by omega) s'
      exact Asks.mono (fun m hm => ⟨hm.1, hm.2.1, by omega, by omega, hm.2.2.2.2⟩) _ r
    | false =>
      have c' := T.tot _ _ (P.lt (i := a) (by omega)) (P.lt (i := a - 1) (by omega)) ne c
      refine ⟨P.lt (by omega), P.lt (by omega), fun e => ne e.symm, ?_⟩
      rw [c']
      exact ⟨rfl, rfl, Nat.le_refl _, show a ≤ a + (f + 1) by omega, s⟩
omit T in
theorem rev_at {p : Array Nat} {k : Nat} (hk : k ≤ p.size) (i : Nat) : (kas_rev p 0 k).getD i 0 = if i < k then p.getD (k - 1 - i) 0 else p.getD i 0 := by
  rw [atq]
  unfold kas_rev
  rw [getElem?_mirror_all hk]
  by_cases z : i < k
  · rw [if_pos ⟨Nat.zero_le _, z⟩, if_pos z, atq, Nat.zero_add]
  · rw [if_neg (fun y => z y.2), if_neg z, atq]
omit T in
theorem Pm.rev {p : Array Nat} (P : Pm n p) (i k : Nat) : Pm n (kas_rev p i k) := ⟨(Array.perm_iff_toList_perm.mp (mirror_perm p i k _)).trans P.pm⟩
omit T in
theorem Pm.bub {p : Array Nat} (P : Pm n p) (i k : Nat) : Pm n (bubble p i k) := ⟨(Array.perm_iff_toList_perm.mp (bubble_perm p i k)).trans P.pm⟩
theorem tail3_ok {p : Array Nat} (P : Pm n p) {k : Nat} (k1 : 1 ≤ k) (kn : k ≤ n) (d : Dd lt p k) : Asks n lt (kas_tail3 k n p) (fun r => 1 ≤ r.1 ∧ r.1 ≤ n ∧ Pm n r.2 ∧ Sd lt r.2 r.1) := by
  have P' := P.rev 0 k
  have s : Sd lt (kas_rev p 0 k) k := fun i j ij jk => by
    rw [rev_at (by rw [P.sz]; exact kn), rev_at (by rw [P.sz]; exact kn), if_pos (by omega), if_pos jk]
    exact d _ _ (by omega) (by omega)
  unfold kas_tail3
  refine Asks.bind (fun m hm => ?_) _ (asc_ok T P' (n - k) k k1 (by omega) s)
  exact (show 1 ≤ m ∧ m ≤ n ∧ Pm n (kas_rev p 0 k) ∧ Sd lt (kas_rev p 0 k) m from ⟨by omega, by omega, P', hm.2.2.1⟩)
theorem descPart_ok {p : Array Nat} (P : Pm n p) (n2 : 2 ≤ n) (c : lt (p.getD 1 0) (p.getD 0 0) = true) : Asks n lt (kas_descPart 1 n p) (fun r => 1 ≤ r.1 ∧ r.1 ≤ n ∧ Pm n r.2 ∧ Sd lt r.2 r.1) := by
  refine Asks.bind (fun r hr => ?_) _ (desc_ok T P (n - 2) 2 (by omega) (by omega) (fun i j ij j2 => ?_))
  · obtain ⟨e1, e2, h1, h2, d⟩ := hr
    rw [if_neg (by omega), e1]
    exact tail3_ok T P (by omega) (by omega) d
  · have : i = 0 := by omega
    have : j = 1 := by omega
    subst i j
    exact c
theorem count_ok {p : Array Nat} (P : Pm n p) (n2 : 2 ≤ n) : Asks n lt (kas_count n p) (fun r => 1 ≤ r.1 ∧ r.1 ≤ n ∧ Pm n r.2 ∧ Sd lt r.2 r.1) := by
  refine Asks.bind (fun m hm => ?_) _ (asc_ok T P (n - 1) 1 (Nat.le_refl _) (by omega) (fun i j ij j1 => by omega))
  obtain ⟨h1, h2, s, c⟩ := hm
  by_cases z : m = n
  · rw [if_pos (by simp [z])]
    exact ⟨h1, by omega, P, s⟩
  · rw [if_neg (by simp [z])]
    have c := c (by omega)
    by_cases y : m > 1
    · rw [if_pos y]
      refine ⟨P.lt (by omega), P.lt (by omega), fun e => ?_, ?_⟩
      · have := P.inj (by omega) (by omega) e
        omega
      · rw [s 0 (m - 1) (by omega) (by omega)]
        exact ⟨h1, by omega, P, s⟩
    · rw [if_neg y]
      have : m = 1 := by omega
      subst this
      exact descPart_ok T P n2 c
theorem place_ok {p : Array Nat} (P : Pm n p) {k : Nat} (kn : k < n) (s : Sd lt p k) : ∀ f l r, l ≤ r → r ≤ k → r - l ≤ f → (∀ i, i < l → lt (p.getD i 0) (p.getD k 0) = true) → (∀ i, r ≤ i → i < k → lt (p.getD k 0) (p.getD i 0) = true) →
    Asks n lt (kas_place p k f l r) (fun m => m ≤ k ∧ (∀ i, i < m → lt (p.getD i 0) (p.getD k 0) = true) ∧ (∀ i, m ≤ i → i < k → lt (p.getD k 0) (p.getD i 0) = true))
  | 0, l, r, lr, rk, f0, a, b => by
    have : l = r := by omega
    subst this
    exact ⟨rk, a, b⟩
  | f + 1, l, r, lr, rk, f0, a, b => by
    unfold kas_place
    by_cases z : l ≥ r
    · rw [if_pos z]
      have : l = r := by omega
      subst this
      exact ⟨rk, a, b⟩
    · rw [if_neg z]
      have m1 : (l + r) / 2 < r := by omega
      have m2 : l ≤ (l + r) / 2 := by omega
      generalize (l + r) / 2 = m at m1 m2
      have ne : p.getD k 0 ≠ p.getD m 0 := fun e => by have := P.inj kn (by omega) e; omega
      refine ⟨P.lt kn, P.lt (by omega), ne, ?_⟩
      cases c : lt (p.getD k 0) (p.getD m 0) with
      | true =>
        refine place_ok P kn s f l m m2 (by omega) (by omega) a fun i mi ik => ?_
        by_cases y : i = m
        · rw [y]; exact c
        · exact T.trans _ (p.getD m 0) _ (P.lt kn) (P.lt (by omega)) (P.lt (by omega)) c (s m i (by omega) ik)
      | false =>
        have c' := T.tot _ _ (P.lt kn) (P.lt (i := m) (by omega)) ne c
        refine place_ok P kn s f (m + 1) r (by omega) rk (by omega) (fun i im => ?_) b
        by_cases y : i = m
        · rw [y]; exact c'
        · exact T.trans _ (p.getD m 0) _ (P.lt (by omega)) (P.lt (by omega)) (P.lt kn) (s i m (by omega) (by omega)) c'
theorem bin_ok : ∀ f (p : Array Nat) (k : Nat), Pm n p → k + f = n → Sd lt p k → Asks n lt (kas_bin f p k) (fun p' => Pm n p' ∧ Sd lt p' n)
  | 0, p, k, P, e, s => ⟨P, by rw [← e]; exact s⟩
  | f + 1, p, k, P, e, s => by
    refine Asks.bind (fun l hl => ?_) _ (place_ok T P (by omega) s k 0 k (by omega) (Nat.le_refl _) (by omega) (fun i z => by omega) (fun i z y => by omega))
    obtain ⟨lk, h1, h2⟩ := hl
    refine bin_ok f _ (k + 1) (P.bub k (k - l)) (by omega) ?_
    have b : ∀ i, (bubble p k (k - l)).getD i 0 = if i = l then p.getD k 0 else if l < i ∧ i ≤ k then p.getD (i - 1) 0 else p.getD i 0 := fun i => by
      rw [atq, getElem?_bubble (by rw [P.sz]; omega) _ (by omega), show k - (k - l) = l by omega]
      by_cases z : i = l
      · rw [if_pos z, if_pos z, atq]
      · rw [if_neg z, if_neg z]
        by_cases y : l < i ∧ i ≤ k
        · rw [if_pos y, if_pos y, atq]
        · rw [if_neg y, if_neg y, atq]
    intro i j ij jk
    rw [b i, b j]
    by_cases z : i = l
    · rw [if_pos z, if_neg (by omega), if_pos ⟨by omega, by omega⟩]
      exact h2 _ (by omega) (by omega)
    · rw [if_neg z]
      by_cases y : j = l
      · rw [if_pos y, if_neg (by omega)]
        exact h1 _ (by omega)
      · rw [if_neg y]
        by_cases x : l < i ∧ i ≤ k
        · rw [if_pos x, if_pos ⟨by omega, by omega⟩]
          exact s _ _ (by omega) (by omega)
        · rw [if_neg x]
          by_cases v : l < j ∧ j ≤ k
          · rw [if_pos v]
            exact s _ _ (by omega) (by omega)
          · rw [if_neg v]
            exact s _ _ ij (by omega)
theorem sort_ok (n2 : 2 ≤ n) : Asks n lt (kas_sort n) (fun p => Pm n p ∧ Sd lt p n) := by
  refine Asks.bind (fun r hr => ?_) _ (count_ok T ⟨by simp⟩ n2)
  obtain ⟨h1, h2, P, s⟩ := hr
  by_cases z : r.1 < n
  · rw [if_pos z, Nat.max_eq_left h1]
    exact bin_ok T _ _ _ P (by omega) s
  · rw [if_neg z]
    have : r.1 = n := by omega
    rw [this] at s
    exact ⟨P, s⟩
end
end L2

set_option Elab.async false
set_option linter.all false
set_option maxRecDepth 100000
set_option maxHeartbeats 4000000
namespace L2
open PySem PySem.Spec PyProof.Rows
/-! ## a lambda that is made in a def's body: its table, its object, its call -/
structure Site (K : PySem.W.Frag) (mg : Str → Option Value) (base : Heap) (cv : Value) (T : Addr) : Prop where
  ex : ∃ c, cv = .ref c ∧ PySem.W.CodeHd base c T
  bm : base.BuiltinsAt mg T
structure Lam (X : Cx) (H : Hp) (q : Str) (ar : Arguments) (body : Expr) (scope : Scope) (f : Addr) (cl : List (Str × Addr)) : Prop where
  ex : ∃ pm c ct oc us t o, H f = some (.frz o (.own f)) ∧ o.data = .func (PySem.W.kla_fn "<lambda>" q ar body scope cl pm (.ref c) ct) ∧ H c = some (.frz oc (.own c)) ∧ oc.data = .fields us ∧ us[1]? = some (.str q t)
  c1 : ∀ x c, cl.lookup x = some c → X.env.cells.lookup x = some c
  c2 : ∀ x, (x, NameKind.free) ∈ scope.names → ∃ c, cl.lookup x = some c
theorem Lam.same {X : Cx} {H H' : Hp} {q : Str} {ar : Arguments} {body : Expr} {scope : Scope} {f : Addr} {cl : List (Str × Addr)} (s : Same H H') (h : Lam X H q ar body scope f cl) : Lam X H' q ar body scope f cl := by
  obtain ⟨pm, c, ct, oc, us, t, o, e1, e2, e3, e4⟩ := h.ex
  exact ⟨⟨pm, c, ct, oc, us, t, o, s _ _ e1, e2, s _ _ e3, e4⟩, h.c1, h.c2⟩
section
variable {X : Cx} {pins : List (Addr × Obj)} {σ : St} {H : Hp} {s : Shared}
theorem lam_make {ar : Arguments} {body : Expr} {scope : Scope} {lp : Pos} {q : Str} {x : Str} {N : List Str} {js : List Nat} {T : Addr} {Q : Value → Shared → Prop}
    (I : Inv X pins σ H s) (S : CompScope X scope x N js) (D : Site X.K X.mg X.base X.env.code T) (hT : H T = some (.tbl lp q)) (hq : X.env.qual ++ "<lambda>" = q) (hd : defaultsOf ar X.env = ([], []))
    (h : ∀ f cl s' H', Inv X pins σ H' s' → Same H H' → Lam X H' q ar body scope f cl → Q (.ref f) s') : wpAny (model X.prog X.w) X.A (eval (.Lambda ar body scope lp) X.env) Q X.xe s := by
  have hcells : ∀ y ∈ scope.names, y.2 = .free → ∃ c, X.env.cells.lookup y.1 = some c := fun y hy hf => I.ok.has y.1 (.inl (S.free y hy hf))
  obtain ⟨cl, ecl, cl1, cl2⟩ := closure_of hcells
  obtain ⟨c, hc, C⟩ := D.ex
  have B := D.bm.keeps I.bk
  have C' := C.keeps I.bk
  obtain ⟨vs, eT, tr, alt⟩ := I.hok T _ hT
  have hg : s.heap.Ns mainGlobals X.mg := I.mod.glob.keeps I.bk
  refine PySem.W.kla_eval hd ?_
  rw [hq]
  have old : ∀ b o, s.heap.get? b = some o → b < s.heap.objs.size := fun b o e => Heap.lt_size e
  have trk : ∀ b u, H b = some u → b < s.heap.objs.size := fun b u e => I.hok.lt e
  rcases alt with alt | ⟨c', oc, us, t, e1, e2, e3, e4⟩
  · have hgT : mainGlobals ≠ T := fun z => by
      obtain ⟨o, es, ep, e, d, _⟩ := id hg
      rw [z, eT] at e
      cases e
      cases d
    refine PySem.W.kla_makeFunction (mg := X.mg) ecl I.ok.glob hg hc C' eT tr alt hgT B fun c' ctv h' tk hx hge hlt hrec htb => ?_
    obtain ⟨c2, oc, us, t, ec, hoc, hd1, hd2⟩ := hrec
    cases ec
    generalize hfo : PySem.W.kla_obj "<lambda>" q ar body scope cl ((X.mg "__name__").getD .none) c' ctv = fo
    have fd : fo.data = .func (PySem.W.kla_fn "<lambda>" q ar body scope cl ((X.mg "__name__").getD .none) (.ref c') ctv) := by rw [← hfo]
    have ff : fo.isFreed = false := by rw [← hfo]; rfl
    have nT : ∀ b, H b = none → b ≠ T := fun b n z => by rw [z, hT] at n; cases n
    have hf : h'.objs.size ≠ c' := Nat.ne_of_gt hlt
    have nf : ∀ b, b < s.heap.objs.size → b ≠ h'.objs.size := fun b hb => Nat.ne_of_lt (Nat.lt_trans (Nat.lt_of_lt_of_le hb hge) hlt)
    have nc : ∀ b, b < s.heap.objs.size → b ≠ c' := fun b hb => Nat.ne_of_lt (Nat.lt_of_lt_of_le hb hge)
    have kp : ∀ b o, b ≠ T → s.heap.get? b = some o → (h'.push fo).get? b = some o := fun b o n e => Heap.get?_push_of_some _ (hx b o n e)
    have sm : Same H (upd (upd H c' (.frz oc (.own c'))) h'.objs.size (.frz fo (.own h'.objs.size))) := fun b u e => by
      rw [upd_ne (nf b (trk b u e)), upd_ne (nc b (trk b u e))]
      exact e
    have hcF : (upd (upd H c' (.frz oc (.own c'))) h'.objs.size (.frz fo (.own h'.objs.size))) c' = some (.frz oc (.own c')) := by
      rw [upd_ne (Ne.symm hf), upd_same]
    refine h h'.objs.size cl _ _ (I.step (g' := s.gens) (d' := s.drawn) (ch := []) (h' := h'.push fo) (t' := tk) (H' := upd (upd H c' (.frz oc (.own c'))) h'.objs.size (.frz fo (.own h'.objs.size))) (fun _ z => nomatch z) (fun b o _ _ _ e n => kp b o (nT b n) e) (fun b o _ _ _ e n => ⟨o.slots, kp b o (nT b n) e⟩)
      (fun b o _ e n => ?_) (fun b o _ e => ?_) (fun b xs e => sm b _ e) (fun b o u e => sm b _ e) (fun b p r e => sm b _ e) (fun m hm => ?_) (fun b u e => ?_) I.bare) sm ⟨⟨_, c', ctv, oc, us, t, fo, upd_same, fd, hcF, hd1, hd2⟩, cl1, cl2⟩
    · rw [upd_ne (nf b (old b o e)), upd_ne (nc b (old b o e))]
      exact n
    · by_cases z : b = T
      · exact ⟨_, by rw [z]; exact Heap.get?_push_of_some _ htb⟩
      · exact ⟨o, kp b o z e⟩
    · exact (hm.extBut hx (nT _ I.free)).push _
    · by_cases z : b = h'.objs.size
      · subst z
        rw [upd_same] at e
        cases e
        exact ⟨Heap.get?_push_size _ ff, _, Heap.get?_push_size _ ff⟩
      · rw [upd_ne z] at e
        by_cases y : b = c'
        · subst y
          rw [upd_same] at e
          cases e
          exact ⟨Heap.get?_push_of_some _ hoc, _, Heap.get?_push_of_some _ hoc⟩
        · rw [upd_ne y] at e
          by_cases w : b = T
          · subst w
            rw [hT] at e
            cases e
            refine ⟨_, Heap.get?_push_of_some _ htb, ?_, .inr ⟨c', oc, us, t, ?_, hcF, hd1, hd2⟩⟩
            · rw [Array.toList_append]
              exact TriplesOk_snoc _ _ _ _ tr
            · rw [Array.toList_append]
              exact codeAmong_snoc _ tr alt
          · refine (I.hok b u e).stay (fun d v hd q => kp d v ?_ q) (fun d q => sm d _ q) (fun d xs q => sm d _ q) fun d ob xs q => sm d _ q
            rintro rfl
            rcases hd with z | z
            · exact w z.symm
            · rw [hT] at z; cases z
  · refine PySem.W.kla_makeFunctionHit (mg := X.mg) ecl I.ok.glob hg hc C' eT tr e1 B fun ctv h' tk hk hsz => ?_
    generalize hfo : ({ cls := .type "function", data := .func (PySem.W.kla_fn "<lambda>" q ar body scope cl ((X.mg "__name__").getD .none) (.ref c') ctv) } : Obj) = fo
    have fd : fo.data = .func (PySem.W.kla_fn "<lambda>" q ar body scope cl ((X.mg "__name__").getD .none) (.ref c') ctv) := by rw [← hfo]
    have hn : H h'.objs.size = none := I.hok.fresh hsz
    have ff : fo.isFreed = false := by rw [← hfo]; rfl
    refine h h'.objs.size cl _ _ (I.laid (a := h'.objs.size) (o := .frz fo (.own h'.objs.size)) (h' := h'.push fo) (t' := tk) (fun b u e => Heap.get?_push_of_some _ (hk b u e)) hsz ⟨Heap.get?_push_size _ ff, _, Heap.get?_push_size _ ff⟩) (same_new hn _) ⟨⟨_, c', ctv, oc, us, t, fo, upd_same, fd, ?_, e3, e4⟩, cl1, cl2⟩
    rw [upd_ne (ne_of_none e2 hn)]
    exact e2
abbrev cxLam (X : Cx) (N : List Str) (scope : Scope) (cl : List (Str × Addr)) (q : Str) (f : Addr) (cd : Value) (A : Around) (s₀ : Shared) (H₀ : Hp) : Cx where
  prog := X.prog
  w := X.w
  K := X.K
  mg := X.mg
  base := X.base
  A := A.deeper (newEnv scope s₀.heap.objs.size mainGlobals cl (q ++ ".<locals>.") (some f) cd none builtinsNs)
  N := N
  s₀ := s₀
  H₀ := H₀
  env := newEnv scope s₀.heap.objs.size mainGlobals cl (q ++ ".<locals>.") (some f) cd none builtinsNs
  outer := X.stack
  stack := newEnv scope s₀.heap.objs.size mainGlobals cl (q ++ ".<locals>.") (some f) cd none builtinsNs :: X.stack
  ex := []
  fn := fun _ => false
  calm := true
  pn := []
  xe := fun _ _ => False
theorem lam_run {ar : Arguments} {body : Expr} {scope : Scope} {q : Str} {x : Str} {N : List Str} {js : List Nat} {f : Addr} {cl : List (Str × Addr)} {te : TE} {A : Around} {v : V} {u : Value} {Q : VK}
    (I : Inv X pins σ H s) (S : CompScope X scope x N js) (L : Lam X H q ar body scope f cl) (hA : A.frames = some X.stack) (hh : A.handled = none) (hdp : A.depth < recursionLimit) (co : scope.isCoroutine = false) (ge : scope.isGenerator = false)
    (hb : ∀ pm c ct u, bindArgs (PySem.W.kla_fn "<lambda>" q ar body scope cl pm c ct) ⟨[u], []⟩ = pure [(x, u)])
    (he : ∀ cd, PE (cxLam X N scope cl q f cd A s H) body te) (rv : RelV v u) (hq : te (some v :: caps σ js) H Q) : wpAny (model X.prog X.w) A (call (.ref f) [u]) (EP X pins σ Q) (fun _ _ => False) s := by
  with_unfolding_all
    obtain ⟨pm, c, ct, oc, us, t, o, e1, e2, e3, e4, e5⟩ := L.ex
    obtain ⟨g1, _⟩ := I.hok f _ e1
    obtain ⟨g2, _⟩ := I.hok c _ e3
    have lim : s.heap.NoLimit := I.nolimit
    refine wpAny_call (codeAny_mono (R := fun r s' => ∃ k, r = .ok (.ret k) ∧ CE X.stack X.prog X.w H s Q k s') ?_ fun r s' hr => ?_)
    · refine PySem.W.kla_callFunE hdp g1 e2 co ge rfl ⟨c, oc, us, t, rfl, g2, e4, e5⟩ ?_
      rw [hb]
      refine wpAny_pure (wpAny_newFunctionEnv S.nocell (fun y hy => ?_) (fun h₁ hns hsb => ?_) S.kind)
      · have hy' : y = (x, u) := by simpa using hy
        subst hy'
        exact S.own
      have old : ∀ b o, s.heap.get? b = some o → h₁.get? b = some o := fun b o e => hsb.extBut b o (Nat.ne_of_lt (Heap.lt_size e)) (Heap.get?_push_of_some _ e)
      refine ⟨lim.keeps old, ?_⟩
      have yok : (cxLam X N scope cl q f (.ref c) A s H).Ok :=
        { mod := I.ok.mod
          kind := S.kind
          glob := rfl
          blt := rfl
          above := Nat.le_refl _
          inj := fun y z c h1 h2 => I.ok.inj y z c (L.c1 y c h1) (L.c1 z c h2)
          has := fun y hy => by
            rcases hy with hy | hy
            · exact absurd rfl (S.nocell _ (PySem.mem_of_lookup hy))
            · exact L.c2 y (PySem.mem_of_lookup hy)
          cab := fun y c hf _ => by cases hf
          hd := fun _ => hh
          frames := Around.frames_deeper hA
          stk := .inr ⟨rfl, rfl⟩
          exf := fun b hb => by simp at hb
          bs := I.bs
          bsz := Nat.le_trans I.ok.bsz I.sz
          noex := fun b o e hb => by simp at hb
          exfs := fun b hb => by simp at hb
          funs := I.stack
          frf := I.stkFree }
      have I1 : Inv (cxLam X N scope cl q f (.ref c) A s H) [] (some v :: caps σ js) H { s with heap := h₁, toks := s.toks + [(x, u)].length } :=
        { ok := yok
          os := rfl
          bare := I.bare
          base := Un.kept old
          loc := by
            refine ⟨_, hns, fun i y v' h1 h2 h3 => ?_⟩
            cases i with
            | zero =>
              have ey : y = x := Option.some.inj (h1.symm.trans S.head)
              subst ey
              have ev : v' = v := by simpa using h2.symm
              subst ev
              exact ⟨u, rv, .inl ⟨S.own, by simp⟩⟩
            | succ k =>
              have h2' : (caps σ js)[k]? = some (some v') := by simpa using h2
              unfold caps at h2'
              rw [List.getElem?_map] at h2'
              cases ej : js[k]? with
              | none => rw [ej] at h2'; cases h2'
              | some j =>
                rw [ej] at h2'
                have e6 : (σ[j]?).join = some v' := Option.some.inj h2'
                have e7 : σ[j]? = some (some v') := by
                  cases eσ : σ[j]? with
                  | none => rw [eσ] at e6; cases e6
                  | some o => rw [eσ] at e6; exact congrArg some e6
                obtain ⟨n1, n2, n3, n4⟩ := S.cap k j y h1 ej
                obtain ⟨mX, _, lX⟩ := I.loc
                obtain ⟨u', ru, lk⟩ := lX j y v' n1 e7 n2
                refine ⟨u', ru, ?_⟩
                rcases lk with ⟨lk, _⟩ | ⟨_, d, ed, cell⟩
                · rw [n3] at lk; cases lk
                · obtain ⟨d', ed'⟩ := L.c2 y n4
                  have : d' = d := Option.some.inj ((L.c1 y d' ed').symm.trans ed)
                  subst this
                  obtain ⟨ob, ho, hd⟩ := cell
                  refine .inr ⟨?_, d', ed', ⟨ob, old _ _ ho, hd⟩⟩
                  have h3' : scope.names.lookup y = some .local ∨ scope.names.lookup y = some .cell ∨ scope.names.lookup y = some .free := h3
                  rcases h3' with z | z | z
                  · exact absurd n4 (S.apart y z)
                  · exact .inl z
                  · exact .inr z
          cell := fun y d e => by
            obtain ⟨v', ob, ho, hd⟩ := I.cell y d (L.c1 y d e)
            exact ⟨v', ob, old _ _ ho, hd⟩
          free := I.hok.fresh (Nat.le_refl _)
          freeC := fun y d e => I.freeC y d (L.c1 y d e)
          pin := fun p hp => by simp at hp
          hok := I.hok.kept old
          len := by show (some v :: caps σ js).length = N.length; rw [S.len]; simp [caps] }
      refine PySem.W.kla_codeExpr (wpAny_mono (he (.ref c) [] _ _ H Q I1 hq) (fun k s' hk => ?_) fun _ _ z => z.elim)
      obtain ⟨w, H', J, rk, qk⟩ := hk
      exact ⟨k, rfl, w, H', J.os, J.bare, J.base, J.hok, rk, qk⟩
    · obtain ⟨k, rfl, ce⟩ := hr
      exact I.after ce
end
end L2

set_option Elab.async false
set_option linter.all false
set_option maxRecDepth 100000
set_option maxHeartbeats 4000000
namespace L2
open PySem PySem.Spec PyProof.Rows PySem.W
theorem bt_sorted : bootBuiltins "sorted" = some (.builtin "sorted") := by decide +kernel
/-! ## sorted, by tuples of ints that are all unlike -/
theorem Asks.wp {α : Type} {n : Nat} {lt : Nat → Nat → Bool} {cmp : Nat → Nat → (Bool → Shared → Prop) → Shared → Prop} {R : α → Prop} {Q : α → Shared → Prop} {s : Shared}
    (hc : ∀ i j C, i < n → j < n → C (lt i j) s → cmp i j C s) (hq : ∀ a, R a → Q a s) : ∀ (t : KasT α), Asks n lt t R → t.kasWp cmp Q s
  | .ret a, h => hq a h
  | .ask i j k, ⟨h1, h2, _, h4⟩ => hc i j _ h1 h2 (Asks.wp hc hq (k (lt i j)) h4)
section
variable {prog : Program} {w : World} {A : Around} {E : Value → Shared → Prop} {s : Shared} {Q : Bool → Shared → Prop}
theorem lex_asks : ∀ (ns ms : List Int) (xs ys : List Value) (i : Nat), ns.length = ms.length → Vals (ns.map V.int) xs → Vals (ms.map V.int) ys → Q (HT.lexLt ns ms) s → KatLex prog w A true false Q (xs.zip ys) i s
  | [], [], xs, ys, i, _, rx, ry, h => by
    cases rx
    cases ry
    exact kat_nil h
  | [], _ :: _, _, _, _, hl, _, _, _ => by simp at hl
  | _ :: _, [], _, _, _, hl, _, _, _ => by simp at hl
  | a :: ns, b :: ms, xs, ys, i, hl, rx, ry, h => by
    cases rx with
    | cons ra rx =>
      cases ry with
      | cons rb ry =>
        obtain ⟨t, rfl⟩ := ra
        obtain ⟨t', rfl⟩ := rb
        rw [HT.lexLt_cons] at h
        refine kat_cons (wpAny_eqBool_int (kat_go (fun e => ?_) fun e => ?_))
        · have ab : a = b := by simpa using e
          rw [if_pos ab] at h
          exact kat_yes (lex_asks ns ms _ _ (i + 1) (by simpa using hl) rx ry h)
        · have ab : a ≠ b := by simpa using e
          rw [if_neg ab] at h
          refine kat_no ?_
          cases i with
          | zero => exact oneLt_int h
          | succ i =>
            have e0 : (true && (i + 1) == 0) = false := by simp
            rw [e0]
            exact kat_one _ _ (lt_int h)
end
def KeysIn (H : Hp) (kf : Nat → List Int) (ks : List Value) : Prop := ∀ j, j < ks.length → ∃ p, ks[j]? = some (.ref p) ∧ H p = some (.tup ((kf j).map V.int))
section
variable {X : Cx} {pins : List (Addr × Obj)} {σ : St} {H : Hp} {s : Shared}
theorem keys_first (I : Inv X pins σ H s) {kf : Nat → List Int} (k1 : ∀ i, 0 < (kf i).length) : ∀ {ks : List Value} {m : Nat}, (∀ j, j < ks.length → ∃ p, ks[j]? = some (.ref p) ∧ H p = some (.tup ((kf (m + j)).map V.int))) →
    ∃ fs : List Value, fs.length = ks.length ∧ KatTups s.heap ks fs ∧ ∀ v ∈ fs, ∃ i t, v = .int i t
  | [], m, _ => ⟨[], rfl, KatTups.nil, fun v hv => by simp at hv⟩
  | v :: ks, m, h => by
    obtain ⟨p, h1, h2⟩ := h 0 (by simp)
    have ev : v = .ref p := by simpa using h1
    subst ev
    obtain ⟨fs, l1, l2, l3⟩ := keys_first I k1 (ks := ks) (m := m + 1) fun j hj => by
      obtain ⟨p, h1, h2⟩ := h (j + 1) (by simpa using hj)
      refine ⟨p, by simpa using h1, ?_⟩
      rw [Nat.add_assoc, Nat.add_comm 1 j]
      exact h2
    obtain ⟨_, its, r, o, e, c1, c2⟩ := I.hok p _ h2
    rw [Nat.add_zero] at r
    cases ek : kf m with
    | nil =>
      have := k1 m
      rw [ek] at this
      simp at this
    | cons a as =>
      rw [ek] at r
      cases r with
      | cons ra rest =>
        obtain ⟨t, rfl⟩ := ra
        obtain ⟨n, c2⟩ := c2
        refine ⟨.int a t :: fs, by simp [l1], KatTups.cons e c1 c2 (by simp) l2, fun v hv => ?_⟩
        rcases List.mem_cons.mp hv with z | z
        · exact ⟨a, t, z⟩
        · exact l3 v z
theorem keys_kind (I : Inv X pins σ H s) {A : Around} {E : Value → Shared → Prop} {kf : Nat → List Int} (k1 : ∀ i, 0 < (kf i).length) {ks : List Value} (h : KeysIn H kf ks) (h2 : 2 ≤ ks.length) {Q : SortKind → Shared → Prop} (q : Q (tuples' true) s) :
    wpAny (model X.prog X.w) A (keyKind' ks.toArray) Q E s := by
  obtain ⟨fs, l1, l2, l3⟩ := keys_first I k1 (ks := ks) (m := 0) (fun j hj => by rw [Nat.zero_add]; exact h j hj)
  refine kat_kind (T := .type "int") l2 (by omega) (fun v hv => ?_) (by decide) q
  obtain ⟨i, t, rfl⟩ := l3 v hv
  exact Looks.of_pure rfl
theorem keys_ask (I : Inv X pins σ H s) {A : Around} {kf : Nat → List Int} {m : Nat} (k1 : ∀ i, (kf i).length = m) {ks : List Value} (h : KeysIn H kf ks) {i j : Nat} (hi : i < ks.length) (hj : j < ks.length) {C : Bool → Shared → Prop} (q : C (HT.lexLt (kf i) (kf j)) s) :
    kas_ask X.prog X.w A (tuples' true) ks i j C s := by
  obtain ⟨p, e1, e2⟩ := h i hi
  obtain ⟨p', e1', e2'⟩ := h j hj
  obtain ⟨_, its, r, o, g, c1, n, c2⟩ := I.hok p _ e2
  obtain ⟨_, its', r', o', g', c1', n', c2'⟩ := I.hok p' _ e2'
  unfold kas_ask
  rw [List.getD_eq_getElem?_getD, List.getD_eq_getElem?_getD, e1, e1']
  have l1 := r.length
  have l2 := r'.length
  rw [List.length_map, k1] at l1 l2
  refine kat_lt g c2 g' c2' ?_
  have z : decide (its.toArray.size < its'.toArray.size) = false := by
    rw [decide_eq_false_iff_not, List.size_toArray, List.size_toArray]
    omega
  rw [z]
  exact lex_asks _ _ _ _ 0 (by rw [k1, k1]) r r' q
theorem vals_pick {xs : List V} {us : List Value} (r : Vals xs us) : ∀ (p : List Nat), (∀ i ∈ p, i < xs.length) → Vals (p.map fun i => xs.getD i .non) (p.map fun i => us.getD i Value.none)
  | [], _ => .nil
  | i :: p, h => by
    have hi := h i List.mem_cons_self
    have e : xs[i]? = some (xs.getD i .non) := by rw [List.getD_eq_getElem?_getD, List.getElem?_eq_getElem hi]; rfl
    obtain ⟨u, hu, ru⟩ := r.get e
    refine .cons ?_ (vals_pick r p fun j hj => h j (List.mem_cons_of_mem _ hj))
    show RelV (xs.getD i .non) (us.getD i Value.none)
    rw [List.getD_eq_getElem?_getD (l := us), hu]
    exact ru
theorem all_in (us : List Value) : (List.range us.length).map (fun i => us.getD i Value.none) = us := by
  apply List.ext_getElem
  · simp
  · intro i h1 h2
    simp [h2]
theorem call_sortK {l f : Addr} {xs : List V} {kf : Nat → List Int} {m : Nat} {Q : VK} (I : Inv X pins σ H s) (hl : SqL X.K H l xs) (hn : xs.length < 64) (k1 : ∀ i, (kf i).length = m) (m1 : 0 < m) (T : Tot xs.length (fun i j => HT.lexLt (kf i) (kf j)))
    (turn : ∀ i v, xs[i]? = some v → ∀ (pins' : List (Addr × Obj)) (s' : Shared) (H' : Hp) (u : Value), Inv X pins' σ H' s' → Same H H' → RelV v u → wpAny (model X.prog X.w) X.A.in1.in1 (call (.ref f) [u]) (EP X pins' σ fun k H'' => Same H' H'' ∧ ∃ p, k = .ref p ∧ H'' p = some (.tup ((kf i).map V.int))) (fun _ _ => False) s')
    (h : ∀ D H' (p : List Nat), Same H H' → H D = none → H' D = some (.lst (p.map fun i => xs.getD i .non)) → p.Perm (List.range xs.length) → (∀ i j, i < j → j < p.length → HT.lexLt (kf (p.getD i 0)) (kf (p.getD j 0)) = true) → Q (.ref D) H') :
    wpAny (model X.prog X.w) X.A (call (.builtin "sorted") [.ref l] [(Str.ofString "key", .ref f)]) (EP X pins σ Q) X.xe s := by
  obtain ⟨its, rv, pl, hz⟩ := I.list hl
  have il : its.length = xs.length := rv.length.symm
  have sl : (100 : Nat) ≤ sizeLine := by decide
  refine call_function_entry_kw kind_sorted plain_sorted entry_sorted (ksk_s1 _ _) ?_
  unfold Builtin.«sorted»
  refine wpAny_bind (m := checkCount "sorted" 1 1 _) (wpAny_pure ?_)
  refine wpAny_bind (collect_list pl.isList ?_ (by omega))
  refine wpAny_bind (wpAny_newList ?_ (by omega))
  have kA : ∀ b o, s.heap.get? b = some o → ((s.heap.push (seqObj "list" #[] 0)).update s.heap.objs.size (Obj.mapSeq (· ++ its.toArray))).get? b = some o := fun b o e => by
    rw [Heap.get?_update_ne _ _ _ _ (Nat.ne_of_lt (Heap.lt_size e))]
    exact Heap.get?_push_of_some _ e
  have sA : s.heap.objs.size ≤ ((s.heap.push (seqObj "list" #[] 0)).update s.heap.objs.size (Obj.mapSeq (· ++ its.toArray))).objs.size := by
    rw [Heap.size_update, size_push']
    exact Nat.le_succ _
  dsimp only
  generalize ((s.heap.push (seqObj "list" #[] 0)).update s.heap.objs.size (Obj.mapSeq (· ++ its.toArray))) = A1 at kA sA ⊢
  have hD : (A1.push (seqObj "list" its.toArray 0)).get? A1.objs.size = some (seqObj "list" its.toArray 0) := Heap.get?_push_size _ rfl
  generalize eD : A1.objs.size = D at hD sA ⊢
  have kB : ∀ b o, s.heap.get? b = some o → (A1.push (seqObj "list" its.toArray 0)).get? b = some o := fun b o e => Heap.get?_push_of_some _ (kA b o e)
  have dB : D < (A1.push (seqObj "list" its.toArray 0)).objs.size := Heap.lt_size hD
  generalize A1.push (seqObj "list" its.toArray 0) = A2 at hD kB dB ⊢
  refine wpAny_bind (wpAny_holding (wpAny_call_entry_kw slot_list_sort ⟨_, hD, rfl⟩ entry_list_sort ?body (ksk_l1 _ _)))
  case body =>
    show wpAny _ _ (Builtin.«list.sort» ⟨[.ref D], [(Str.ofString "key", .ref f)]⟩) _ _ _
    rw [ksk_t1]
    unfold ksk_tree
    refine wpAny_bind (listItems_at hD rfl ?_)
    refine wpAny_bind (listUpdate_at hD rfl ?_ (by rw [List.size_toArray]; omega) (Nat.zero_le _))
    obtain ⟨e1, hD1⟩ : ∃ e1, (A2.update D (Obj.mapSeq fun _ => (#[] : Array Value))).get? D = some (seqObj "list" #[] e1) := ⟨_, get?_update_seq hD fun _ => #[]⟩
    have kC : ∀ b o, s.heap.get? b = some o → (A2.update D (Obj.mapSeq fun _ => (#[] : Array Value))).get? b = some o := fun b o e => by
      rw [Heap.get?_update_ne _ _ _ _ (Nat.ne_of_lt (Nat.lt_of_lt_of_le (Heap.lt_size e) sA))]
      exact kB b o e
    dsimp only
    refine wpAny_bind (seqEpoch_at hD1 rfl ?_)
    refine wpAny_bind (wpAny_newTuple ?_ (by show its.length ≤ sizeLine; omega))
    refine wpAny_bind (wpAny_newList ?_ (Nat.zero_le _))
    refine wpAny_holding ?_
    dsimp only
    generalize A2.update D (Obj.mapSeq fun _ => (#[] : Array Value)) = A3 at hD1 kC ⊢
    have hD2 := Heap.get?_push_of_some (seqObj "tuple" its.toArray 0) hD1
    have kE : ∀ b o, s.heap.get? b = some o → (A3.push (seqObj "tuple" its.toArray 0)).get? b = some o := fun b o e => Heap.get?_push_of_some _ (kC b o e)
    have sE : D < (A3.push (seqObj "tuple" its.toArray 0)).objs.size := Heap.lt_size hD2
    show wpAny _ _ (ksk_rest D (.ref f) false its.toArray e1 (.ref (A3.push (seqObj "tuple" its.toArray 0)).objs.size)) _ _ { s with heap := (A3.push (seqObj "tuple" its.toArray 0)).push (seqObj "list" #[] 0) }
    generalize A3.push (seqObj "tuple" its.toArray 0) = A4 at hD2 kE sE ⊢
    have hk0 : (A4.push (seqObj "list" #[] 0)).get? A4.objs.size = some (seqObj "list" #[] 0) := Heap.get?_push_size _ rfl
    have hD3 := Heap.get?_push_of_some (seqObj "list" #[] 0) hD2
    have kF : ∀ b o, s.heap.get? b = some o → (A4.push (seqObj "list" #[] 0)).get? b = some o := fun b o e => Heap.get?_push_of_some _ (kE b o e)
    generalize A4.push (seqObj "list" #[] 0) = A5 at hk0 hD3 kF ⊢
    generalize A4.objs.size = kS at hk0 sE ⊢
    have ne : D ≠ kS := Nat.ne_of_lt sE
    have sK : s.heap.objs.size ≤ kS := Nat.le_trans sA (Nat.le_of_lt sE)
    have nK : H kS = none := I.hok.fresh sK
    have nD : H D = none := I.hok.fresh sA
    have fK := I.fpOk (H' := H) sK nK
    have fD := I.fpOk (H' := H) sA nD
    have I0 : Inv X ((kS, seqObj "list" (List.toArray []) 0) :: (D, seqObj "list" #[] e1) :: pins) σ H { s with heap := A5 } := (I.kept (t' := s.toks) (h' := A5) kF).pins_of fun p hp => by
      rcases List.mem_cons.mp hp with rfl | hp
      · exact ⟨hk0, nK, fK.2.1, fK.2.2.1, fun v z => by cases z⟩
      · rcases List.mem_cons.mp hp with rfl | hp
        · exact ⟨hD3, nD, fD.2.1, fD.2.2.1, fun v z => by cases z⟩
        · obtain ⟨g1, g2⟩ := I.pin p (List.mem_append_right _ hp)
          exact ⟨kF _ _ g1, g2⟩
    unfold ksk_rest
    refine wpAny_bind (wpAny_rule ?_)
    rw [← Array.forIn_toList]
    refine wpAny_bind (ksk_fold (fun i s' => ∃ e ks H', ks.length = i ∧ Inv X ((kS, seqObj "list" (List.toArray ks) e) :: (D, seqObj "list" #[] e1) :: pins) σ H' s' ∧ Same H H' ∧ KeysIn H' kf ks) its 0 _ ⟨0, [], H, rfl, I0, Same.refl _, fun j hj => by simp at hj⟩ (fun j x s' hx hI => ?step) fun s' hI => ?done)
    case step =>
      obtain ⟨e, ks, H', lk, I', sm, kin⟩ := hI
      have hjx : j < xs.length := by
        have := (List.getElem?_eq_some_iff.mp hx).1
        omega
      obtain ⟨v, hv, rvx⟩ : ∃ v, xs[j]? = some v ∧ RelV v x := by
        obtain ⟨u, hu, ru⟩ := rv.get (List.getElem?_eq_getElem hjx)
        rw [hx] at hu
        cases hu
        exact ⟨_, List.getElem?_eq_getElem hjx, ru⟩
      refine wpAny_bind (wpAny_attempt (wpAny_mono (turn j v hv _ s' H' x I' sm rvx) (fun k s'' hk => ?_) fun _ _ z => z.elim))
      obtain ⟨w, H'', I'', rw', sm', p, rfl, hp⟩ := hk
      obtain rfl : k = .ref p := rw'
      obtain ⟨hkS, nkS, _, _, _⟩ := I''.pin (kS, seqObj "list" (List.toArray ks) e) (List.mem_append_right _ List.mem_cons_self)
      dsimp only
      refine wpAny_bind (listUpdate_at hkS rfl ?_ (by rw [List.size_toArray]; omega) (by rw [Array.size_push, List.size_toArray]; omega))
      obtain ⟨c2, hc2⟩ : ∃ c2, (s''.heap.update kS (Obj.mapSeq (·.push (.ref p)))).get? kS = some (seqObj "list" (List.toArray (ks ++ [.ref p])) c2) := ⟨_, by
        have g := get?_update_seq hkS (·.push (.ref p))
        rw [show (List.toArray ks).push (.ref p) = List.toArray (ks ++ [.ref p]) by simp] at g
        exact g⟩
      have sb := Heap.SameBut.update s''.heap kS (Obj.mapSeq (·.push (.ref p)))
      have J : Inv X ((D, seqObj "list" #[] e1) :: pins) σ H'' { s'' with heap := s''.heap.update kS (Obj.mapSeq (·.push (.ref p))), toks := s''.toks } :=
        (I''.pins_of (pins' := (D, seqObj "list" #[] e1) :: pins) fun q hq => I''.pin q (List.mem_append_right _ (List.mem_cons_of_mem _ hq))).turned (fun b o n g => (sb.2 b n).trans g) nkS fK.2.1 fK.2.2.2.1 fK.2.2.2.2.1 fun q hq => by
          rcases List.mem_append.mp hq with hq | hq
          · exact fK.2.2.2.2.2 q (List.mem_append_left _ hq)
          · rcases List.mem_cons.mp hq with rfl | hq
            · exact ne
            · exact fK.2.2.2.2.2 q (List.mem_append_right _ hq)
      refine wpAny_pure ⟨rfl, c2, ks ++ [.ref p], H'', by simp [lk], J.pins_of fun q hq => ?_, sm.trans sm', fun i hi => ?_⟩
      · rcases List.mem_cons.mp hq with rfl | hq
        · exact ⟨hc2, nkS, fK.2.1, fK.2.2.1, fun v z => by cases z⟩
        · exact J.pin q (List.mem_append_right _ hq)
      · by_cases z : i < ks.length
        · obtain ⟨p', g1, g2⟩ := kin i z
          exact ⟨p', by rw [List.getElem?_append_left z]; exact g1, sm' _ _ g2⟩
        · have ei : i = ks.length := by simp at hi; omega
          refine ⟨p, by rw [ei]; simp, ?_⟩
          rw [ei, lk, Nat.zero_add]
          exact hp
    case done =>
      obtain ⟨e, ks, H', lk, I', sm, kin⟩ := hI
      rw [Nat.zero_add] at lk
      obtain ⟨hkS, nkS, _, _, _⟩ := I'.pin (kS, seqObj "list" (List.toArray ks) e) (List.mem_append_right _ List.mem_cons_self)
      obtain ⟨hDp, nDp, _, _, _⟩ := I'.pin (D, seqObj "list" #[] e1) (List.mem_append_right _ (List.mem_cons_of_mem _ List.mem_cons_self))
      refine wpAny_bind (listItems_at hkS rfl ?_)
      have tail : ∀ (st : SortSt) (p : List Nat), failedOf st = none → (arrOf st).map (·.2) = List.toArray (p.map fun i => its.getD i Value.none) → p.Perm (List.range xs.length) → (∀ i j, i < j → j < p.length → HT.lexLt (kf (p.getD i 0)) (kf (p.getD j 0)) = true) →
          wpAny (model X.prog X.w) X.A.in1.in1 (ksk_tail D false e1 (.ref kS) st) (fun fin s'' => ∃ v, fin = .done (.ret v) ∧ wpAny (model X.prog X.w) X.A.in1 (ret (.ref D)) (fun fin s'' => ∃ v, fin = .done (.ret v) ∧ EP X pins σ Q v s'') X.xe s'') X.xe s' := by
        intro st p hf hout hp hs
        have pl2 : p.length = xs.length := by simpa using hp.length_eq
        unfold ksk_tail
        dsimp only
        rw [hout]
        refine wpAny_bind (listUpdate_at hkS rfl ?_ (by rw [List.size_toArray]; omega) (Nat.zero_le _))
        refine wpAny_bind (wpAny_letGo ?_)
        have sb := Heap.SameBut.update s'.heap kS (Obj.mapSeq fun _ => (#[] : Array Value))
        have hD' := (sb.2 D ne).trans hDp
        refine wpAny_bind (seqEpoch_at hD' rfl ?_)
        refine wpAny_bind (listUpdate_at hD' rfl ?_ (Nat.zero_le _) (by simp; omega))
        rw [hf]
        simp only [bne_self_eq_false, Bool.false_eq_true, if_false]
        obtain ⟨c2, hc2⟩ : ∃ c2, ((s'.heap.update kS (Obj.mapSeq fun _ => (#[] : Array Value))).update D (Obj.mapSeq fun _ => List.toArray (p.map fun i => its.getD i Value.none))).get? D = some (seqObj "list" (List.toArray (p.map fun i => its.getD i Value.none)) c2) := ⟨_, get?_update_seq hD' fun _ => List.toArray (p.map fun i => its.getD i Value.none)⟩
        have sb2 := Heap.SameBut.update (s'.heap.update kS (Obj.mapSeq fun _ => (#[] : Array Value))) D (Obj.mapSeq fun _ => List.toArray (p.map fun i => its.getD i Value.none))
        have kp : ∀ b o, b ≠ kS → b ≠ D → s'.heap.get? b = some o → ((s'.heap.update kS (Obj.mapSeq fun _ => (#[] : Array Value))).update D (Obj.mapSeq fun _ => List.toArray (p.map fun i => its.getD i Value.none))).get? b = some o := fun b o n1 n2 g => (sb2.2 b n2).trans ((sb.2 b n1).trans g)
        have trk : ∀ b u, H' b = some u → b ≠ kS ∧ b ≠ D := fun b u g => ⟨(fun z => by rw [z, nkS] at g; cases g), fun z => by rw [z, nDp] at g; cases g⟩
        refine wpAny_pure ⟨_, rfl, wpAny_pure ⟨_, rfl, .ref D, upd H' D (.lst (p.map fun i => xs.getD i .non)), ?_, rfl, h D _ p (fun b u g => ?_) nD upd_same hp hs⟩⟩
        · refine (I'.pins_of (pins' := pins) fun q hq => I'.pin q (List.mem_append_right _ (List.mem_cons_of_mem _ (List.mem_cons_of_mem _ hq)))).step (g' := s'.gens) (d' := s'.drawn) (t' := s'.toks) (ch := [kS, D]) (fun b hb => ?_) (fun b o _ _ hc g _ => kp b o (fun z => hc (by simp [z])) (fun z => hc (by simp [z])) g)
            (fun b o _ _ hc g _ => ⟨o.slots, kp b o (fun z => hc (by simp [z])) (fun z => hc (by simp [z])) g⟩) (fun b o hc _ n => ?_) (fun b o hc g => ⟨o, kp b o (fun z => hc (by simp [z])) (fun z => hc (by simp [z])) g⟩) (fun b ys g => ?_) (fun b o u g => ?_) (fun b lp lq g => ?_) (fun mm hm => ?_) (fun b u g => ?_) I'.bare
          · rcases List.mem_cons.mp hb with rfl | hb
            · exact ⟨fK.2.2.2.1, fK.2.1, fK.2.2.2.2.1, fK.2.2.2.2.2⟩
            · have : b = D := by simpa using hb
              subst this
              exact ⟨fD.2.2.2.1, fD.2.1, fD.2.2.2.2.1, fD.2.2.2.2.2⟩
          · rw [upd_ne (fun z => hc (by simp [z]))]
            exact n
          · rw [upd_ne (trk b _ g).2]
            exact g
          · rw [upd_ne (trk b _ g).2]
            exact g
          · rw [upd_ne (trk b _ g).2]
            exact g
          · obtain ⟨o, es, ep, g, r⟩ := hm
            exact ⟨o, es, ep, kp _ o (Ne.symm fK.2.1) (Ne.symm fD.2.1) g, r⟩
          · by_cases z : b = D
            · subst z
              rw [upd_same] at g
              cases g
              refine ⟨by rw [List.length_map, pl2]; omega, _, c2, vals_pick rv p fun i hi => List.mem_range.mp (hp.mem_iff.mp hi), hc2⟩
            · rw [upd_ne z] at g
              refine (I'.hok b u g).stay (fun d v hd q => kp d v ?_ ?_ q) (fun d q => ?_) (fun d ys q => ?_) fun d ob ys q => ?_
              · rcases hd with y | y
                · rw [y]; exact (trk b u g).1
                · exact (trk d _ y).1
              · rcases hd with y | y
                · rw [y]; exact (trk b u g).2
                · exact (trk d _ y).2
              · rw [upd_ne (trk d _ q).2]
                exact q
              · rw [upd_ne (trk d _ q).2]
                exact q
              · rw [upd_ne (trk d _ q).2]
                exact q
        · rw [upd_ne (trk b _ (sm b u g)).2]
          exact sm b u g
      unfold ksk_end
      dsimp only
      simp only [Bool.false_eq_true, if_false]
      by_cases n2 : its.toArray.size < 2
      · rw [if_pos n2, if_pos n2]
        refine wpAny_bind (wpAny_pure ?_)
        rw [StateT.run_pure]
        refine wpAny_bind (wpAny_pure ?_)
        dsimp only
        refine tail _ (List.range xs.length) rfl ?_ (List.Perm.refl _) fun i j ij jl => ?_
        · show ((List.toArray ks).zip its.toArray).map (·.2) = _
          rw [← il, all_in]
          apply Array.toList_inj.mp
          rw [Array.toList_map, ksk_zip]
          exact List.map_snd_zip (by simp; omega)
        · rw [List.size_toArray] at n2
          rw [List.length_range] at jl
          omega
      · rw [if_neg n2, if_neg n2]
        rw [List.size_toArray] at n2
        refine wpAny_bind (keys_kind I' (fun i => by rw [k1]; exact m1) kin (by omega) ?_)
        refine wpAny_bind (wpAny_mono (kat_run (vs := its) (Q := fun st' s'' => ∃ p : Array Nat, arrOf st' = p.map (kas_item ((List.toArray ks).zip its.toArray)) ∧ failedOf st' = none ∧ s'' = s' ∧ Pm xs.length p ∧ Sd (fun i j => HT.lexLt (kf i) (kf j)) p xs.length) (G := fun p s'' => s'' = s' ∧ Pm xs.length p ∧ Sd (fun i j => HT.lexLt (kf i) (kf j)) p xs.length)
          lk (by omega) (by omega) (fun p st' s'' _ a2 a3 a4 => ⟨p, a2, a3, a4⟩) ?_) ?_ fun _ _ z => z)
        · rw [il]
          refine Asks.wp (n := xs.length) (lt := fun i j => HT.lexLt (kf i) (kf j)) (R := fun p => Pm xs.length p ∧ Sd (fun i j => HT.lexLt (kf i) (kf j)) p xs.length) (fun i j C hi hj hC => ?_) (fun p hp => ⟨rfl, hp⟩) _ (sort_ok T (by omega))
          exact keys_ask I' k1 kin (by omega) (by omega) hC
        · rintro ⟨⟨⟩, st'⟩ s'' ⟨p, har, hf, rfl, P, S⟩
          refine tail st' p.toList hf (kat_snds lk har) P.pm fun i j ij jl => ?_
          have e2 : ∀ k, p.toList.getD k 0 = p.getD k 0 := fun k => by rw [List.getD_eq_getElem?_getD, atq]; simp
          rw [e2, e2]
          exact S i j ij (by rw [Array.length_toList, P.sz] at jl; exact jl)
end
end L2

set_option Elab.async false
set_option linter.all false
set_option maxRecDepth 100000
set_option maxHeartbeats 4000000
namespace L2
open PySem PySem.Spec PyProof.Rows PySem.W
/-! ## sorted(xs, key=lambda x: ..), the lambda's keys tuples of ints -/
def tSortK (K : Frag) (T : Addr) (lp : Pos) (q : Str) (t : TA) (js : List Nat) (te : TE) : TE := fun σ H Q => t σ H fun vs H1 => ∃ (l : Addr) (xs : List V) (kf : Nat → List Int) (m : Nat), vs = [.ref l] ∧ SqL K H1 l xs ∧ xs.length < 64 ∧ (∀ i, (kf i).length = m) ∧ 0 < m ∧
  Tot xs.length (fun i j => HT.lexLt (kf i) (kf j)) ∧ H1 T = some (.tbl lp q) ∧ ∀ H2, Same H1 H2 →
    (∀ i v, xs[i]? = some v → ∀ H3, Same H2 H3 → te (some v :: caps σ js) H3 fun k H4 => Same H3 H4 ∧ ∃ p, k = .ref p ∧ H4 p = some (.tup ((kf i).map V.int))) ∧
    ∀ D H' (p : List Nat), Same H2 H' → H2 D = none → H' D = some (.lst (p.map fun i => xs.getD i .non)) → p.Perm (List.range xs.length) → (∀ i j, i < j → j < p.length → HT.lexLt (kf (p.getD i 0)) (kf (p.getD j 0)) = true) → Q (.ref D) H'
theorem pe_sortKey {X : Cx} {sp pos kp lp : Pos} {e : Expr} {ar : Arguments} {body : Expr} {scope : Scope} {q x : Str} {N : List Str} {js : List Nat} {T : Addr} {t : TA} {te : TE}
    (S : CompScope X scope x N js) (D : Site X.K X.mg X.base X.env.code T) (hq : X.env.qual ++ "<lambda>" = q) (hdp : X.A.depth < recursionLimit) (hc : X.calm = true) (hg : Gl X "sorted") (hm : X.mg "sorted" = none) (ha : PA X [e] t)
    (he : ∀ cl f cd s H, PE (cxLam X N scope cl q f cd X.A.in1.in1 s H) body te)
    (hd : defaultsOf ar X.env = ([], []) := by rfl) (co : scope.isCoroutine = false := by rfl) (ge : scope.isGenerator = false := by rfl)
    (hb : ∀ cl pm c ct u, bindArgs (kla_fn "<lambda>" q ar body scope cl pm c ct) ⟨[u], []⟩ = pure [(x, u)] := by intro _ _ _ _ _; rfl)
    (hst : backTo pos (starEach [e] X.env) = (false, eval e X.env) :: backTo pos (starEach [] X.env) := by rfl) :
    PE X (.Call (.Name "sorted" sp) [e] [⟨some "key", .Lambda ar body scope lp, kp⟩] pos) (tSortK X.K T lp q t js te) := by
  with_unfolding_all
    intro pins s σ H Q I h
    refine wpAny_Call_Name_kw (ld_blt I hg hm bt_sorted ?_)
    refine callWith_kw (thn (ha pos pins s σ H _ I h) fun us s1 ⟨vs, H1, I1, r, q1⟩ => ?_) hst (by rw [hst]; rfl) rfl rfl
    obtain ⟨l, xs, kf, m, rfl, hl, hn, k1, m1, Tt, hT, more⟩ := q1
    obtain ⟨u, rfl, ru⟩ := vals1 r
    cases ru
    refine kws_cons (lam_make I1 S D hT hq hd fun f cl s2 H2 I2 sm L => kws_nil ?_)
    obtain ⟨turn, fin⟩ := more H2 sm
    have hl2 : SqL X.K H2 l xs := sm.seq hl
    refine call_sortK (f := f) I2 hl2 hn k1 m1 Tt (fun i v hv pins' s' H' u I' sm' rv => ?_) fun D' H' p a1 a2 a3 a4 a5 => fin D' H' p a1 a2 a3 a4 a5
    exact lam_run (A := X.A.in1.in1) I' S (L.same sm') I'.ok.frames (I'.ok.hd hc) hdp co ge (hb cl) (fun cd => he cl f cd s' H') rv (turn i v hv H' sm')
structure FunC (K : Frag) (x qual : Str) (st : Stmt) (f : Addr) (fd : FuncData) (cv : Value) : Prop where
  ex : ∃ (oc : Value) (od : Option Addr) (kV doc pm : Value) (an : Option Addr) (ct : Value) (osl : Array (Option Value)),
    fd = fnOf x qual (defArgs st) (defBody st) (defScope st) .none kV doc pm an cv ct ∧ K.lookup f = some ⟨oc, od, .func fd, osl⟩ ∧ codeIn K cv qual = true
theorem FunC.ok {P : Program} {w : World} {K : Frag} {mg : Str → Option Value} {base : Heap} {x qual : Str} {st : Stmt} {f : Addr} {fd : FuncData} {cv : Value} {N ps : List Str} {k : Nat} {sp : Sp} (F : FunC K x qual st f fd cv) (S : FnScope N ps (defScope st)) (len : ∀ vs H Q E, sp vs H Q E → vs.length = ps.length)
    (hbody : ∀ (A : Around) (outer : List Env) (s : Shared) (H : Hp) (vs : List V) (Q : VK) (E : XK), Room k (A.deeper (envOfC qual (defScope st) s.heap.objs.size f cv)) → sp vs H Q E →
      ∃ t, PSs (cxOf CX0 P w K mg base N qual (defScope st) f cv A outer s H E).nox (defBody st) t ∧ t { nx := fun _ H' => Q .non H', rt := Q } (start N vs) H) : FnOk P w K mg base CX0 (k + 1) f fd ps sp := by
  obtain ⟨oc, od, kV, doc, pm, an, ct, osl, rfl, lk, hcd⟩ := F.ex
  refine fn_of lk hcd S len fun A outer s H vs Q E hr hsp => ?_
  obtain ⟨t, h, q⟩ := hbody A outer s H vs Q E hr hsp
  exact ⟨t, h.nox, q⟩
theorem func_mk {K : Frag} {x qual : Str} {st : Stmt} {f : Addr} {oc : Value} {od an : Option Addr} {osl : Array (Option Value)} {kV doc pm cdv ct : Value} (l : K.lookup f = some ⟨oc, od, .func (fnOf x qual (defArgs st) (defBody st) (defScope st) .none kV doc pm an cdv ct), osl⟩)
    (c : codeIn K cdv qual = true) : FunC K x qual st f (fnOf x qual (defArgs st) (defBody st) (defScope st) .none kV doc pm an cdv ct) cdv := ⟨⟨oc, od, kV, doc, pm, an, ct, osl, rfl, l, c⟩⟩
structure DfnC (K : Frag) (mg : Str → Option Value) (x : Str) (st : Stmt) (ps : List Str) (f : Addr) (fd : FuncData) (cv : Value) : Prop where
  F : FunC K x x st f fd cv
  kp : keepIn K (.ref f) = true
  b : Binds K fd ps []
  m : mg x = some (.ref f)
theorem DfnC.cal {P : Program} {w : World} {K : Frag} {mg : Str → Option Value} {base : Heap} {x : Str} {st : Stmt} {ps : List Str} {f : Addr} {fd : FuncData} {cv : Value} {k : Nat} {sp : Sp}
    (D : DfnC K mg x st ps f fd cv) (G : FnOk P w K mg base CX0 k f fd ps sp) : Cal P w K mg base x k ps sp := ⟨⟨f, fd, G, D.b, D.m, D.kp⟩⟩
/-! ## the head: the law's call, one table tracked from the beginning -/
def tabless (K : Frag) : Bool := K.all fun p => match p.2.cls, p.2.data with | .none, .fields _ => false | _, _ => true
theorem tabless_ne : ∀ {K : Frag}, tabless K = true → ∀ {b : Addr} {vs : Array Value}, K.lookup b ≠ some { cls := .none, data := .fields vs }
  | [], _, b, vs, e => by cases e
  | (a, o) :: K, h, b, vs, e => by
    unfold tabless at h
    rw [List.all_cons, Bool.and_eq_true] at h
    rw [List.lookup_cons] at e
    cases z : b == a with
    | true =>
      rw [z] at e
      cases e
      exact absurd h.1 (by simp)
    | false =>
      rw [z] at e
      exact tabless_ne (K := K) h.2 e
theorem law_callT {P : Program} {w : World} {K : Frag} {mg mb : Str → Option Value} {k : Nat} {fa a T : Addr} {fd : FuncData} {x : Str} {lp : Pos} {q : Str} {sp : Sp} {s₁ : Shared} {vs : List Value} {ns : List Int} {cv : Value}
    (KX : K.In s₁.heap) (kt : tabless K = true) (hns : s₁.heap.Ns mainGlobals mg) (hb : s₁.heap.Ns builtinsNs mb) (hbb : ∀ x : Str, x ≠ "__name__" → mb x = bootBuiltins x) (hlim : s₁.heap.NoLimit) (hg : s₁.gens = #[])
    (ha : s₁.heap.get? a = some { cls := .type "list", data := .seq vs.toArray }) (hi : IntsAre vs ns) (hl : ns.length ≤ sizeLine) (hr : Room k callerA)
    (hT : s₁.heap.get? T = some (tabObj #[])) (hct : isCodeTable s₁.heap T) (hs : ∀ h : Heap, (∀ b o, s₁.heap.get? b = some o → b ≠ T → b ≠ a → h.get? b = some o) → Site K mg h cv T)
    (F : ∀ base : Heap, K.In base → base.Ns mainGlobals mg → Site K mg base cv T → FnOk P w K mg base CX0 k fa fd [x] sp) (hbind : ∀ (s : Shared) (u : Value), BindsTo s fd ⟨[u], []⟩ [(x, u)])
    (hsp : ∀ H : Hp, H T = some (.tbl lp q) → SqL K H a (ns.map V.int) → sp [.ref a] H (fun v _ => v = .bl true) fun _ _ _ => False) :
    codeAny (model P w) callerA (.call (.ref fa) ⟨[.ref a], []⟩) (fun r s' => r = .ok (.ret (.bool true)) ∧ OldK s₁.heap s'.heap ∧ s'.os = s₁.os ∧ AllBare s'.gens) s₁ := by
  have rv := vals_ints hi
  have lenV := hi.length
  have aT : a ≠ T := fun z => by rw [z, hT] at ha; cases ha
  have core : ∀ H : Hp, H T = some (.tbl lp q) → SqL K H a (ns.map V.int) → (∀ b u, H b = some u → b = T ∨ (b = a ∧ u = .frz { cls := .type "list", data := .seq vs.toArray } (.lst (ns.map V.int)))) → (H a ≠ none → K.lookup a = none) →
      codeAny (model P w) callerA (.call (.ref fa) ⟨[.ref a], []⟩) (fun r s' => r = .ok (.ret (.bool true)) ∧ OldK s₁.heap s'.heap ∧ s'.os = s₁.os ∧ AllBare s'.gens) s₁ := by
    intro H hHT hS hO hK
    have hok : HOk P w H s₁.heap := fun b u e => by
      rcases hO b u e with z | ⟨z, rfl⟩
      · subst z
        rw [hHT] at e
        cases e
        exact ⟨#[], hT, trivial, .inl rfl⟩
      · subst z
        exact ⟨ha, by rw [List.length_map]; exact hl, vs, _, rv, ha⟩
    have base_of : ∀ {b : Addr} {o : Obj}, s₁.heap.get? b = some o → H b = none → (hidT s₁.heap H).get? b = some o := fun e n => hidT_get e n
    have no : ∀ b, b ≠ T → b ≠ a → H b = none := fun b n1 n2 => by
      cases z : H b with
      | none => rfl
      | some u =>
        rcases hO b u z with y | y
        · exact absurd y n1
        · exact absurd y.1 n2
    have noA : ∀ {b : Addr} {o : Obj} {es : Array DictEntry} {ep : Nat}, s₁.heap.get? b = some o → o.data = .dict es ep → H b = none := fun {b o es ep} e d => by
      refine no b (fun z => ?_) fun z => ?_
      · rw [z, hT] at e
        cases e
        cases d
      · rw [z, ha] at e
        cases e
        cases d
    have nsK : ∀ {b : Addr} {m : Str → Option Value}, s₁.heap.Ns b m → (hidT s₁.heap H).Ns b m := fun {b m} ⟨o, es, ep, e, d, r⟩ => ⟨o, es, ep, base_of e (noA e d), d, r⟩
    have hKb : K.In (hidT s₁.heap H) := fun b o e => base_of (KX b o e) (by
      cases z : H b with
      | none => rfl
      | some u =>
        rcases hO b u z with y | y
        · have e' := KX b o e
          rw [y, hT] at e'
          cases e'
          exact absurd e (tabless_ne kt)
        · have e2 := hK (by rw [← y.1, z]; simp)
          rw [← y.1, e] at e2
          cases e2)
    have hM : Mod K mg (hidT s₁.heap H) := ⟨hKb, nsK hns, ⟨mb, nsK hb, hbb⟩, let ⟨mc, h1, h2⟩ := hlim; ⟨mc, nsK h1, h2⟩⟩
    have e0 : Env0 P w K mg (hidT s₁.heap H) callerA [] s₁ H := ⟨rfl, hM, fun b o e => of_hidT e, Nat.le_of_eq (hidT_size _ _), trivial, fun b hb => absurd (show b ∈ ([] : List Addr) from hb) (by simp), hok, .of_eq hg⟩
    have hSi : Site K mg (hidT s₁.heap H) cv T := hs _ fun b o e n1 n2 => base_of e (no b n1 n2)
    refine codeAny_mono ((F _ hKb (nsK hns) hSi).run callerA [] s₁ H ⟨[.ref a], []⟩ [.ref a] [.ref a] _ _ hr e0 (hbind s₁ (.ref a)) (.cons rfl .nil) (hsp H hHT hS)) fun r s' h => ?_
    cases r with
    | error e => exact False.elim h
    | ok fl =>
      cases fl with
      | next => exact False.elim h
      | brk => exact False.elim h
      | cont => exact False.elim h
      | ret u =>
        obtain ⟨v, H', os, bare, un, hok', r', qv⟩ := h
        have qv' : v = .bl true := qv
        subst qv'
        obtain rfl : u = Value.bool true := r'
        have kp : ∀ b o, b ≠ T → s₁.heap.get? b = some o → s'.heap.get? b = some o := fun b o n e => by
          cases z : H b with
          | none => exact un.keep b o e z (by intro z; exact absurd (show b ∈ ([] : List Addr) from z) (by simp)) (by simp)
          | some u =>
            rcases hO b u z with y | ⟨y, rfl⟩
            · exact absurd y n
            · have z2 := un.frzs b _ _ z
              obtain ⟨e2, _⟩ := hok' b _ z2
              subst y
              rw [ha] at e
              cases e
              exact e2
        obtain ⟨ws, g1, _⟩ := hok' T _ (un.tbls T lp q hHT)
        refine ⟨rfl, ⟨fun b o e => ?_, fun b o e => ?_⟩, os, bare⟩
        · by_cases z : b = T
          · subst z
            rw [hT] at e
            cases e
            exact .inr (.inl ⟨hct, rfl, #[], ws, rfl, by simpa using g1⟩)
          · exact .inl (kp b o z e)
        · by_cases z : b = T
          · subst z
            exact ⟨_, g1⟩
          · exact ⟨o, kp b o z e⟩
  cases hk : K.lookup a with
  | some o =>
    have e := KX a o hk
    rw [ha] at e
    cases e
    refine core (fun b => if b = T then some (.tbl lp q) else none) (if_pos rfl) (.inr ⟨_, vs.toArray, _, hk, rfl, rfl, rfl, by rw [List.size_toArray, lenV]; exact hl, by simpa using rv⟩) (fun b u z => ?_) fun z => absurd (if_neg aT) z
    by_cases hb : b = T
    · exact .inl hb
    · have z' := (if_neg hb).symm.trans z
      cases z'
  | none =>
    refine core (fun b => if b = T then some (.tbl lp q) else if b = a then some (.frz { cls := .type "list", data := .seq vs.toArray } (.lst (ns.map V.int))) else none) (if_pos rfl) (.inl (.inr ⟨{ cls := .type "list", data := .seq vs.toArray }, (if_neg aT).trans (if_pos rfl)⟩)) (fun b u z => ?_) fun _ => hk
    by_cases hb : b = T
    · exact .inl hb
    · have z : (if b = T then some (HO.tbl lp q) else if b = a then some (.frz { cls := .type "list", data := .seq vs.toArray } (.lst (ns.map V.int))) else none) = some u := z
      rw [if_neg hb] at z
      by_cases hb2 : b = a
      · rw [if_pos hb2] at z
        cases z
        exact .inr ⟨hb2, rfl⟩
      · rw [if_neg hb2] at z
        cases z
theorem walk_ofT {l : OpenLaw} {n k : Nat} {qp : Program} {loose : List Str} {XP : (Str → Option Value) → Heap → Prop} {YP : World → Heap → Prop} {d : DefRec} {K : Params → Frag} {sp : Frag → Addr → Sp} {x g : Str} {lp : Pos} {q : Str}
    (hn : l.most = some n) (hn2 : n ≤ sizeLine) (hdf : d.params.defaults = []) (hr : Room k callerA)
    (hY : ∀ (w : World) (h : Heap), YP w h → (K w.params).In h) (hK : ∀ p, tabless (K p) = true) (hrec : ∃ dr, (recsOf qp).find? (fun e => e.name == g) = some dr)
    (F : ∀ (w : World) (mg : Str → Option Value) (fa : Addr) (h : Heap), (K w.params).In h → h.Ns mainGlobals mg → mg d.name = some (.ref fa) →
      ∃ (fd fg : FuncData) (ag : Addr) (og : Obj), (∀ (s : Shared) (u : Value), BindsTo s fd ⟨[u], []⟩ [(x, u)]) ∧ mg g = some (.ref ag) ∧ (K w.params).lookup ag = some og ∧ og.data = .func fg ∧
        ∀ T (base : Heap), (K w.params).In base → base.Ns mainGlobals mg → Site (K w.params) mg base fg.code T → FnOk l.prog w (K w.params) mg base CX0 k fa fd [x] (sp (K w.params) T))
    (hsp : ∀ (K : Frag) (T : Addr) (H : Hp) (a : Addr) (ns : List Int), ns.length ≤ n → H T = some (.tbl lp q) → SqL K H a (ns.map V.int) → sp K T [.ref a] H (fun v _ => v = .bl true) fun _ _ _ => False) :
    WalkO qp loose XP YP l.row.toRowW d [] (fun f vs => PySem.call f vs) := by
  refine Att.attach_call hn hdf fun w s₀ s₁ mg mb fa o pm cd doc a vs ns G Y ho hd hcd hmg hobj hints hlen hg => ?_
  have KX := hY w _ Y
  obtain ⟨fd, fg, ag, og, hb, hmg2, hlk, hog, hF⟩ := F w mg fa _ KX G.T.g hmg
  obtain ⟨dr, hdr⟩ := hrec
  have hnm : dr.name = g := beq_iff_eq.mp (List.find?_some (p := fun e : DefRec => e.name == g) hdr)
  obtain ⟨a', o', fd', c, T, h1, h2, h3, h4, h5, h6⟩ := G.T.tab dr (List.mem_of_find?_eq_some hdr)
  rw [hnm, hmg2] at h1
  cases h1
  have h2' := KX ag og hlk
  rw [h2] at h2'
  cases h2'
  rw [hog] at h3
  cases h3
  obtain ⟨bm, ob, b1, b2, b3, b4, b5, b6⟩ := G.T.bmain
  have hT := h6.2
  have ha := hobj
  have bT : bm ≠ T := fun z => by
    rw [z, hT] at b3
    cases b3
    cases b4
  have ba : bm ≠ a := fun z => by
    rw [z, ha] at b3
    cases b3
    injection b4 with y
    exact absurd y (by decide)
  have bG : bm ≠ mainGlobals := fun z => by
    obtain ⟨og', es, ep, e, dd, _⟩ := G.T.g
    rw [z, e] at b3
    cases b3
    rw [dd] at b6
    cases b6
  have C := CodeHd.of h5 h6
  obtain ⟨⟨oc, us, c1, c2, c3, c4⟩, _⟩ := id h6
  have cT : c ≠ T := fun z => by
    rw [z, hT] at c1
    cases c1
    cases c2
  have ca : c ≠ a := fun z => by
    rw [z, ha] at c1
    cases c1
    injection c2 with y
    exact absurd y (by decide)
  have site : ∀ h : Heap, (∀ b o, s₁.heap.get? b = some o → b ≠ T → b ≠ a → h.get? b = some o) → Site (K w.params) mg h fg.code T := fun h kp =>
    ⟨⟨c, h4, by
      obtain ⟨o2, vs2, file, tf, flags, tg, inF, text, tt, e, r⟩ := id C
      exact ⟨o2, vs2, file, tf, flags, tg, inF, text, tt, kp _ _ e cT ca, r⟩⟩, bm, ob, b1, b2, bG, bT, kp _ _ b3 bT ba, b4, b5, b6⟩
  exact law_callT (lp := lp) (q := q) (sp := sp (K w.params) T) KX (hK _) G.T.g G.T.b G.T.builtins G.T.nolimit hg hobj hints (Nat.le_trans hlen hn2) hr hT h6.isCodeTable site (hF T) hb fun H hO hS => hsp (K w.params) T H a ns hlen hO hS
end L2

set_option Elab.async false
set_option linter.all false
set_option maxRecDepth 100000
set_option maxHeartbeats 4000000
namespace L2
open PySem PySem.Spec PyProof.Rows
/-! ## the least common bottom, the keys of places -/
theorem dvd_27720 {b : Int} (h0 : 0 < b) (h1 : b ≤ 12) : b ∣ 27720 := by
  obtain ⟨k, rfl⟩ := Int.eq_ofNat_of_zero_le (Int.le_of_lt h0)
  have hk : k ≤ 12 := Int.ofNat_le.mp h1
  have hp : 0 < k := Int.ofNat_lt.mp h0
  match k, hk, hp with
  | 1, _, _ => exact ⟨27720, rfl⟩
  | 2, _, _ => exact ⟨13860, rfl⟩
  | 3, _, _ => exact ⟨9240, rfl⟩
  | 4, _, _ => exact ⟨6930, rfl⟩
  | 5, _, _ => exact ⟨5544, rfl⟩
  | 6, _, _ => exact ⟨4620, rfl⟩
  | 7, _, _ => exact ⟨3960, rfl⟩
  | 8, _, _ => exact ⟨3465, rfl⟩
  | 9, _, _ => exact ⟨3080, rfl⟩
  | 10, _, _ => exact ⟨2772, rfl⟩
  | 11, _, _ => exact ⟨2520, rfl⟩
  | 12, _, _ => exact ⟨2310, rfl⟩
theorem lcm_step {m b : Int} (hm : 0 < m) (hb : 0 < b) : 0 < m * b / M1.gd m b ∧ m ∣ m * b / M1.gd m b ∧ b ∣ m * b / M1.gd m b ∧ ∀ k : Int, m ∣ k → b ∣ k → m * b / M1.gd m b ∣ k := by
  obtain ⟨x, rfl⟩ := Int.eq_ofNat_of_zero_le (Int.le_of_lt hm)
  obtain ⟨y, rfl⟩ := Int.eq_ofNat_of_zero_le (Int.le_of_lt hb)
  have e : (x : Int) * (y : Int) / M1.gd x y = ((Nat.lcm x y : Nat) : Int) := by
    unfold M1.gd
    rw [Int.gcd_natCast_natCast]
    unfold Nat.lcm
    rw [← Int.natCast_mul, ← Int.natCast_ediv]
  rw [e]
  have x0 : 0 < x := by omega
  have y0 : 0 < y := by omega
  refine ⟨?_, ?_, ?_, fun k h1 h2 => ?_⟩
  · have := Nat.lcm_pos x0 y0
    omega
  · exact Int.natCast_dvd_natCast.mpr (Nat.dvd_lcm_left x y)
  · exact Int.natCast_dvd_natCast.mpr (Nat.dvd_lcm_right x y)
  · rw [Int.ofNat_dvd_left] at h1 h2 ⊢
    exact Nat.lcm_dvd h1 h2
def wM (c : Cl) (t M : Int) : Int := c.wt * (M / c.wb) + (t - c.came) * (c.st * (M / c.sb))
def kM (c : Cl) (t M : Int) : List Int := [-(wM c t M), c.came, c.n]
theorem wM_eq {c : Cl} {t M : Int} (h1 : c.wb ∣ M) (h2 : c.sb ∣ M) : wM c t M * wbot c = wtop c t * M := by
  have e1 := Int.ediv_mul_cancel h1
  have e2 := Int.ediv_mul_cancel h2
  unfold wM wbot wtop
  rw [Int.add_mul, Int.add_mul]
  congr 1
  · calc c.wt * (M / c.wb) * (c.wb * c.sb) = c.wt * c.sb * (M / c.wb * c.wb) := by ac_rfl
      _ = c.wt * c.sb * M := by rw [e1]
  · calc (t - c.came) * (c.st * (M / c.sb)) * (c.wb * c.sb) = (t - c.came) * c.st * c.wb * (M / c.sb * c.sb) := by ac_rfl
      _ = (t - c.came) * c.st * c.wb * M := by rw [e2]
theorem gap_M {c d : Cl} {t M : Int} (c1 : c.wb ∣ M) (c2 : c.sb ∣ M) (d1 : d.wb ∣ M) (d2 : d.sb ∣ M) : gap c d t * M = (wM c t M - wM d t M) * (wbot c * wbot d) := by
  have e1 := wM_eq (t := t) c1 c2
  have e2 := wM_eq (t := t) d1 d2
  unfold gap
  rw [Int.sub_mul, Int.sub_mul]
  congr 1
  · calc wtop c t * wbot d * M = (wtop c t * M) * wbot d := by ac_rfl
      _ = (wM c t M * wbot c) * wbot d := by rw [e1]
      _ = wM c t M * (wbot c * wbot d) := by ac_rfl
  · calc wtop d t * wbot c * M = (wtop d t * M) * wbot c := by ac_rfl
      _ = (wM d t M * wbot d) * wbot c := by rw [e2]
      _ = wM d t M * (wbot c * wbot d) := by ac_rfl
theorem lex_ahd {c d : Cl} {t M : Int} (oc : c.Ok) (od : d.Ok) (hM : 0 < M) (c1 : c.wb ∣ M) (c2 : c.sb ∣ M) (d1 : d.wb ∣ M) (d2 : d.sb ∣ M) : HT.lexLt (kM c t M) (kM d t M) = ahd c d t := by
  have e := gap_M (t := t) c1 c2 d1 d2
  have bp : 0 < wbot c * wbot d := Int.mul_pos (bot_pos oc) (bot_pos od)
  unfold kM ahd
  rw [HT.lexLt_cons, lex_tie]
  rcases (by omega : wM c t M - wM d t M < 0 ∨ wM c t M - wM d t M = 0 ∨ 0 < wM c t M - wM d t M) with z | z | z
  · have g : gap c d t < 0 := by
      refine Int.not_le.mp fun y => ?_
      have h1 := Int.mul_nonneg y (Int.le_of_lt hM)
      have h2 := Int.mul_neg_of_neg_of_pos z bp
      omega
    rw [if_neg (by omega), if_neg (by omega), decide_eq_false (by omega), decide_eq_false (by omega)]
  · have g : gap c d t = 0 := by
      rw [z, Int.zero_mul] at e
      rcases Int.mul_eq_zero.mp e with y | y
      · exact y
      · omega
    rw [if_pos (by omega), if_pos g]
  · have g : 0 < gap c d t := by
      refine Int.not_le.mp fun y => ?_
      have h1 := Int.mul_nonpos_of_nonpos_of_nonneg y (Int.le_of_lt hM)
      have h2 := Int.mul_pos z bp
      omega
    rw [if_neg (by omega), if_neg (by omega), decide_eq_true (by omega), decide_eq_true (by omega)]
theorem nd_ne {cs : List Cl} (g : Good cs) {i j : Nat} {c d : Cl} (h1 : cs[i]? = some c) (h2 : cs[j]? = some d) (ne : i ≠ j) : c.n ≠ d.n := fun e => by
  obtain ⟨a1, b1⟩ := List.getElem?_eq_some_iff.mp h1
  obtain ⟨a2, b2⟩ := List.getElem?_eq_some_iff.mp h2
  have nd := g.nd
  have := (List.getElem_inj (xs := cs.map (·.n)) (i := i) (j := j) (h₀ := by simpa using a1) (h₁ := by simpa using a2) nd).mp (by rw [List.getElem_map, List.getElem_map, b1, b2]; exact e)
  exact ne this
def lt_at (cs : List Cl) (t : Int) (i j : Nat) : Bool := match cs[i]?, cs[j]? with
  | some c, some d => ahd c d t
  | _, _ => false
theorem tot_at {cs : List Cl} (g : Good cs) (t : Int) : Tot cs.length (lt_at cs t) where
  asym := fun i j hi hj h => by
    unfold lt_at at h ⊢
    rw [List.getElem?_eq_getElem hi, List.getElem?_eq_getElem hj] at h ⊢
    cases z : ahd cs[j] cs[i] t with
    | false => exact z
    | true => exact (ahd_asymm h z).elim
  tot := fun i j hi hj ne h => by
    unfold lt_at at h ⊢
    rw [List.getElem?_eq_getElem hi, List.getElem?_eq_getElem hj] at h ⊢
    show ahd cs[j] cs[i] t = true
    rw [ahd_swap (nd_ne g (List.getElem?_eq_getElem hi) (List.getElem?_eq_getElem hj) ne)]
    have h : ahd cs[i] cs[j] t = false := h
    rw [h]
    rfl
  trans := fun i j k hi hj hk h1 h2 => by
    unfold lt_at at h1 h2 ⊢
    rw [List.getElem?_eq_getElem hi, List.getElem?_eq_getElem hj] at h1
    rw [List.getElem?_eq_getElem hj, List.getElem?_eq_getElem hk] at h2
    rw [List.getElem?_eq_getElem hi, List.getElem?_eq_getElem hk]
    exact ahd_trans (g.ok _ (List.getElem_mem hi)) (g.ok _ (List.getElem_mem hj)) (g.ok _ (List.getElem_mem hk)) h1 h2
def kf_at (cs : List Cl) (t M : Int) (i : Nat) : List Int := match cs[i]? with
  | some c => kM c t M
  | none => [0, 0, 0]
theorem kf_len (cs : List Cl) (t M : Int) (i : Nat) : (kf_at cs t M i).length = 3 := by
  unfold kf_at
  cases cs[i]? <;> rfl
theorem kf_lt {cs : List Cl} (g : Good cs) {t M : Int} (hM : 0 < M) (hd : ∀ c ∈ cs, c.wb ∣ M ∧ c.sb ∣ M) {i j : Nat} (hi : i < cs.length) (hj : j < cs.length) : HT.lexLt (kf_at cs t M i) (kf_at cs t M j) = lt_at cs t i j := by
  unfold kf_at lt_at
  rw [List.getElem?_eq_getElem hi, List.getElem?_eq_getElem hj]
  have m1 := List.getElem_mem hi
  have m2 := List.getElem_mem hj
  exact lex_ahd (g.ok _ m1) (g.ok _ m2) hM (hd _ m1).1 (hd _ m1).2 (hd _ m2).1 (hd _ m2).2
theorem Tot.congr {n : Nat} {lt lt' : Nat → Nat → Bool} (T : Tot n lt) (h : ∀ i j, i < n → j < n → lt' i j = lt i j) : Tot n lt' where
  asym := fun i j hi hj e => by
    rw [h i j hi hj] at e
    rw [h j i hj hi]
    exact T.asym i j hi hj e
  tot := fun i j hi hj ne e => by
    rw [h i j hi hj] at e
    rw [h j i hj hi]
    exact T.tot i j hi hj ne e
  trans := fun i j k hi hj hk e1 e2 => by
    rw [h i j hi hj] at e1
    rw [h j k hj hk] at e2
    rw [h i k hi hk]
    exact T.trans i j k hi hj hk e1 e2
theorem kf_tot {cs : List Cl} (g : Good cs) {t M : Int} (hM : 0 < M) (hd : ∀ c ∈ cs, c.wb ∣ M ∧ c.sb ∣ M) : Tot cs.length (fun i j => HT.lexLt (kf_at cs t M i) (kf_at cs t M j)) := (tot_at g t).congr fun i j hi hj => kf_lt g hM hd hi hj
theorem pick_perm {α : Type} (d : α) (xs : List α) {p : List Nat} (h : p.Perm (List.range xs.length)) : (p.map fun i => xs.getD i d).Perm xs := by
  have e : (List.range xs.length).map (fun i => xs.getD i d) = xs := by
    apply List.ext_getElem
    · simp
    · intro i h1 h2
      simp [h2]
  have := h.map fun i => xs.getD i d
  rw [e] at this
  exact this
theorem pick_srt {ps : List (Addr × Cl)} (g : Good (ps.map (·.2))) {t M : Int} (hM : 0 < M) (hd : ∀ c ∈ ps.map (·.2), c.wb ∣ M ∧ c.sb ∣ M) {p : List Nat} (h : p.Perm (List.range (ps.map (·.2)).length)) (d : Addr × Cl)
    (hs : ∀ i j, i < j → j < p.length → HT.lexLt (kf_at (ps.map (·.2)) t M (p.getD i 0)) (kf_at (ps.map (·.2)) t M (p.getD j 0)) = true) : Srt t ((p.map fun i => ps.getD i d).map (·.2)) := by
  unfold Srt
  rw [List.map_map, List.pairwise_iff_getElem]
  intro i j hi hj ij
  rw [List.length_map] at hi hj
  have lt : ∀ k (hk : k < p.length), p[k] < (ps.map (·.2)).length := fun k hk => List.mem_range.mp (h.mem_iff.mp (List.getElem_mem hk))
  have z := hs i j ij hj
  rw [List.getD_eq_getElem?_getD, List.getD_eq_getElem?_getD, List.getElem?_eq_getElem hi, List.getElem?_eq_getElem hj] at z
  have z : HT.lexLt (kf_at (ps.map (·.2)) t M p[i]) (kf_at (ps.map (·.2)) t M p[j]) = true := z
  rw [kf_lt g hM hd (lt i hi) (lt j hj)] at z
  unfold lt_at at z
  rw [List.getElem?_eq_getElem (lt i hi), List.getElem?_eq_getElem (lt j hj)] at z
  have z : ahd ((ps.map (·.2))[p[i]]'(lt i hi)) ((ps.map (·.2))[p[j]]'(lt j hj)) t = true := z
  rw [List.getElem_map, List.getElem_map] at z
  rw [List.getElem_map, List.getElem_map]
  have e : ∀ k (hk : k < p.length), ps.getD p[k] d = ps[p[k]]'(by have := lt k hk; simpa using this) := fun k hk => by
    have := lt k hk
    rw [List.getD_eq_getElem?_getD, List.getElem?_eq_getElem (by simpa using this)]
    rfl
  show ahd (ps.getD p[i] d).2 (ps.getD p[j] d).2 t = true
  rw [e i hi, e j hj]
  exact z
section
variable {X : Cx}
theorem any_range (bs : List Bool) : (List.range bs.length).any (fun i => (bs[i]?).getD false) = bs.any id := by
  induction bs with
  | nil => rfl
  | cons b r ih =>
    rw [List.length_cons, List.range_succ_eq_map, List.any_cons, List.any_map, List.any_cons, ← ih]
    rfl
theorem call_anyB (hc : X.calm = true) : CallR X (.builtin "any") (fun xs H Q => ∃ (p : Addr) (bs : List Bool), xs = [.ref p] ∧ SqL X.K H p (bs.map V.bl) ∧ Q (.bl (bs.any id)) H) := by
  intro pins s σ H xs us Q I r h
  obtain ⟨p, bs, rfl, hq, q⟩ := h
  obtain ⟨u, rfl, ru⟩ := vals1 r
  cases ru
  obtain ⟨its, rv, pl, hz⟩ := I.list hq
  have lt : p < s.heap.objs.size := by
    obtain ⟨o, ho, _⟩ := pl.isList
    exact Heap.lt_size ho
  have hl : its.toArray.size = bs.length := by
    have := rv.length
    simp at this ⊢
    omega
  refine call_any_walk (wpAny_pyIter_list pl.isList ?_)
  refine ⟨s.heap.objs.size, _, _, _, _, _, fun i => (bs[i]?).getD false, rfl, Walks.list (prog := X.prog) (w := X.w) (A := X.A.in1) (show X.A.in1.handled = none from I.ok.hd hc) _ p (Nat.ne_of_lt lt) its.toArray, ⟨⟨_, Heap.get?_push_size _ rfl, rfl, rfl⟩, pl.isList.at fun o e => Heap.get?_push_of_some _ e⟩, fun i v s' Q' E' hP hQ' => ?_, fun h' tk kk => ?_⟩
  · have hP' : its[i]? = some v := by simpa using hP
    cases e : bs[i]? with
    | none =>
      have h1 : its.length ≤ i := by
        have h2 := List.getElem?_eq_none_iff.mp e
        simp at hl
        omega
      rw [List.getElem?_eq_none h1] at hP'
      cases hP'
    | some b =>
      dsimp only at hQ'
      rw [e] at hQ'
      obtain ⟨u, hu, ru⟩ := rv.get (i := i) (x := .bl b) (by rw [List.getElem?_map, e]; rfl)
      rw [hP'] at hu
      cases hu
      cases (show v = Value.bool b from ru)
      exact wpAny_truthy_bool hQ'
  · rw [hl, any_range]
    refine ⟨.bl _, H, I.kept (t' := tk) (h' := h') fun b o e => kk b o ?_ (Heap.get?_push_of_some _ e), rfl, q⟩
    intro z
    have z : b = s.heap.objs.size := by simpa using z
    exact Nat.ne_of_lt (Heap.lt_size e) z
end
end L2

set_option Elab.async false
set_option linter.all false
set_option maxRecDepth 100000
set_option maxHeartbeats 4000000
namespace L2
open PySem PySem.Spec PyProof.Rows PySem.W
/-! ## sorted(xs), xs tuples of ints that are all unlike -/
section
variable {X : Cx}
def rSortT (K : Frag) : List V → Hp → VK → Prop := fun vs H Q => ∃ (l : Addr) (xs : List V) (kf : Nat → List Int) (m : Nat), vs = [.ref l] ∧ SqL K H l xs ∧ xs.length < 64 ∧ (∀ i, (kf i).length = m) ∧ 0 < m ∧ Tot xs.length (fun i j => HT.lexLt (kf i) (kf j)) ∧
  (∀ i v, xs[i]? = some v → ∃ p, v = .ref p ∧ H p = some (.tup ((kf i).map V.int))) ∧
  ∀ D H' (p : List Nat), Same H H' → H D = none → H' D = some (.lst (p.map fun i => xs.getD i .non)) → p.Perm (List.range xs.length) → (∀ i j, i < j → j < p.length → HT.lexLt (kf (p.getD i 0)) (kf (p.getD j 0)) = true) → Q (.ref D) H'
theorem call_sortT : CallR X (.builtin "sorted") (rSortT X.K) := by
  intro pins s σ H xs0 us Q I r h
  obtain ⟨l, xs, kf, m, rfl, hl, hn, k1, m1, T, hk, h⟩ := h
  obtain ⟨u, rfl, ru⟩ := vals1 r
  cases ru
  obtain ⟨its, rv, pl, hz⟩ := I.list hl
  have il : its.length = xs.length := rv.length.symm
  have sl : (100 : Nat) ≤ sizeLine := by decide
  have kin : KeysIn H kf its := fun j hj => by
    have hjx : j < xs.length := by omega
    obtain ⟨p, e1, e2⟩ := hk j _ (List.getElem?_eq_getElem hjx)
    obtain ⟨u, hu, ru⟩ := rv.get (List.getElem?_eq_getElem hjx)
    rw [e1] at ru
    obtain rfl : u = .ref p := ru
    exact ⟨p, hu, e2⟩
  refine Calls.call_function_entry kind_sorted plain_sorted entry_sorted (args_sorted1 (.ref l)) ?_
  unfold Builtin.«sorted»
  refine wpAny_bind (m := checkCount "sorted" 1 1 _) (wpAny_pure (wpAny_bind (collect_list pl.isList (wpAny_bind (wpAny_newList ?_ (by omega))) (by omega))))
  have kA : ∀ b o, s.heap.get? b = some o → ((s.heap.push (seqObj "list" #[] 0)).update s.heap.objs.size (Obj.mapSeq (· ++ its.toArray))).get? b = some o := fun b o e => by
    rw [Heap.get?_update_ne _ _ _ _ (Nat.ne_of_lt (Heap.lt_size e))]
    exact Heap.get?_push_of_some _ e
  have sA : s.heap.objs.size ≤ ((s.heap.push (seqObj "list" #[] 0)).update s.heap.objs.size (Obj.mapSeq (· ++ its.toArray))).objs.size := by
    rw [Heap.size_update, size_push']
    exact Nat.le_succ _
  dsimp only
  generalize ((s.heap.push (seqObj "list" #[] 0)).update s.heap.objs.size (Obj.mapSeq (· ++ its.toArray))) = A1 at kA sA ⊢
  have hD : (A1.push (seqObj "list" its.toArray 0)).get? A1.objs.size = some (seqObj "list" its.toArray 0) := Heap.get?_push_size _ rfl
  generalize eD : A1.objs.size = D at hD sA ⊢
  have kB : ∀ b o, s.heap.get? b = some o → (A1.push (seqObj "list" its.toArray 0)).get? b = some o := fun b o e => Heap.get?_push_of_some _ (kA b o e)
  generalize A1.push (seqObj "list" its.toArray 0) = A2 at hD kB ⊢
  refine wpAny_bind (wpAny_holding (wpAny_call_entry slot_list_sort ⟨_, hD, rfl⟩ entry_list_sort ?body (args_list_sort (.ref D))))
  case body =>
    rw [list_sort_plain D]
    refine wpAny_bind (listItems_at hD rfl (wpAny_bind (listUpdate_at hD rfl ?_ (by rw [List.size_toArray]; omega) (Nat.zero_le _))))
    obtain ⟨e1, hD1⟩ : ∃ e1, (A2.update D (Obj.mapSeq fun _ => (#[] : Array Value))).get? D = some (seqObj "list" #[] e1) := ⟨_, get?_update_seq hD fun _ => #[]⟩
    have kC : ∀ b o, s.heap.get? b = some o → (A2.update D (Obj.mapSeq fun _ => (#[] : Array Value))).get? b = some o := fun b o e => by
      rw [Heap.get?_update_ne _ _ _ _ (Nat.ne_of_lt (Nat.lt_of_lt_of_le (Heap.lt_size e) sA))]
      exact kB b o e
    dsimp only
    refine wpAny_bind (seqEpoch_at hD1 rfl (wpAny_bind (wpAny_newTuple ?_ (by show its.length ≤ sizeLine; omega))))
    refine wpAny_bind (wpAny_newList (wpAny_holding ?_) (Nat.zero_le _))
    dsimp only
    generalize A2.update D (Obj.mapSeq fun _ => (#[] : Array Value)) = A3 at hD1 kC ⊢
    have hD3 := Heap.get?_push_of_some (seqObj "list" #[] 0) (Heap.get?_push_of_some (seqObj "tuple" its.toArray 0) hD1)
    have kF : ∀ b o, s.heap.get? b = some o → ((A3.push (seqObj "tuple" its.toArray 0)).push (seqObj "list" #[] 0)).get? b = some o := fun b o e => Heap.get?_push_of_some _ (Heap.get?_push_of_some _ (kC b o e))
    have nD : H D = none := I.hok.fresh sA
    have fD := I.fpOk (H' := H) sA nD
    have I0 : Inv X pins σ H { s with heap := (A3.push (seqObj "tuple" its.toArray 0)).push (seqObj "list" #[] 0) } := I.kept (t' := s.toks) kF
    show wpAny (model X.prog X.w) X.A.in1.in1 _ _ _ { s with heap := (A3.push (seqObj "tuple" its.toArray 0)).push (seqObj "list" #[] 0) }
    generalize (A3.push (seqObj "tuple" its.toArray 0)).push (seqObj "list" #[] 0) = A5 at hD3 kF I0 ⊢
    have fin : ∀ (p : List Nat), p.Perm (List.range xs.length) → (∀ i j, i < j → j < p.length → HT.lexLt (kf (p.getD i 0)) (kf (p.getD j 0)) = true) →
        EP X pins σ Q (.ref D) { s with heap := A5.update D (Obj.mapSeq fun _ => List.toArray (p.map fun i => its.getD i Value.none)) } := by
      intro p hp hs
      have pl2 : p.length = xs.length := by simpa using hp.length_eq
      obtain ⟨c2, hc2⟩ : ∃ c2, (A5.update D (Obj.mapSeq fun _ => List.toArray (p.map fun i => its.getD i Value.none))).get? D = some (seqObj "list" (List.toArray (p.map fun i => its.getD i Value.none)) c2) := ⟨_, get?_update_seq hD3 fun _ => List.toArray (p.map fun i => its.getD i Value.none)⟩
      have sb := Heap.SameBut.update A5 D (Obj.mapSeq fun _ => List.toArray (p.map fun i => its.getD i Value.none))
      have kp : ∀ b o, b ≠ D → A5.get? b = some o → (A5.update D (Obj.mapSeq fun _ => List.toArray (p.map fun i => its.getD i Value.none))).get? b = some o := fun b o n g => (sb.2 b n).trans g
      have trk : ∀ b u, H b = some u → b ≠ D := fun b u g z => by rw [z, nD] at g; cases g
      have sm : Same H (upd H D (.lst (p.map fun i => xs.getD i .non))) := fun b u g => by rw [upd_ne (trk b u g)]; exact g
      refine ⟨.ref D, upd H D (.lst (p.map fun i => xs.getD i .non)), ?_, rfl, h D _ p sm nD upd_same hp hs⟩
      refine Inv.step (s := { s with heap := A5 }) (g' := s.gens) (d' := s.drawn) (t' := s.toks) (ch := [D]) I0 (fun b hb => ?_) (fun b o _ _ hc g _ => kp b o (fun z => hc (by simp [z])) g) (fun b o _ _ hc g _ => ⟨o.slots, kp b o (fun z => hc (by simp [z])) g⟩) (fun b o hc _ n => ?_) (fun b o hc g => ⟨o, kp b o (fun z => hc (by simp [z])) g⟩)
        (fun b ys g => sm b _ g) (fun b o u g => sm b _ g) (fun b lp lq g => sm b _ g) (fun mm hm => ?_) (fun b u g => ?_) I0.bare
      · have : b = D := by simpa using hb
        subst this
        exact ⟨fD.2.2.2.1, fD.2.1, fD.2.2.2.2.1, fD.2.2.2.2.2⟩
      · rw [upd_ne (fun z => hc (by simp [z]))]
        exact n
      · obtain ⟨o, es, ep, g, r⟩ := hm
        exact ⟨o, es, ep, kp _ o (Ne.symm fD.2.1) g, r⟩
      · by_cases z : b = D
        · subst z
          rw [upd_same] at g
          cases g
          refine ⟨by rw [List.length_map, pl2]; omega, _, c2, vals_pick rv p fun i hi => List.mem_range.mp (hp.mem_iff.mp hi), hc2⟩
        · rw [upd_ne z] at g
          refine (I0.hok b u g).stay (fun d v hd q => kp d v ?_ q) (fun d q => sm d _ q) (fun d ys q => sm d _ q) fun d ob ys q => sm d _ q
          rcases hd with y | y
          · rw [y]; exact trk b u g
          · exact trk d _ y
    have tail : ∀ (st : SortSt) (p : List Nat), failedOf st = none → (arrOf st).map (·.2) = List.toArray (p.map fun i => its.getD i Value.none) → p.Perm (List.range xs.length) → (∀ i j, i < j → j < p.length → HT.lexLt (kf (p.getD i 0)) (kf (p.getD j 0)) = true) → (p.map fun i => its.getD i Value.none).length = its.length := fun st p _ _ hp _ => by
      rw [List.length_map]
      have := hp.length_eq
      simp at this
      omega
    by_cases n2 : its.toArray.size < 2
    · rw [if_pos n2, if_pos n2]
      refine wpAny_bind (wpAny_pure ?_)
      rw [StateT.run_pure]
      refine wpAny_bind (wpAny_pure ?_)
      dsimp only
      rw [List.size_toArray] at n2
      have hout : (arrOf (SortSt.mk' general' (its.toArray.zip its.toArray) #[] 7 none)).map (·.2) = List.toArray ((List.range xs.length).map fun i => its.getD i Value.none) := by
        show ((List.toArray its).zip its.toArray).map (·.2) = _
        rw [← il, all_in]
        apply Array.toList_inj.mp
        rw [Array.toList_map, ksk_zip]
        exact List.map_snd_zip (by simp)
      rw [hout]
      refine wpAny_bind (seqEpoch_at hD3 rfl (wpAny_bind (listUpdate_at hD3 rfl ?_ (Nat.zero_le _) (by simp; omega))))
      simp only [bne_self_eq_false, Bool.false_eq_true, if_false]
      refine wpAny_pure ⟨_, rfl, wpAny_pure ⟨_, rfl, fin (List.range xs.length) (List.Perm.refl _) fun i j ij jl => ?_⟩⟩
      rw [List.length_range] at jl
      omega
    · rw [if_neg n2, if_neg n2]
      rw [List.size_toArray] at n2
      refine wpAny_bind (keys_kind I0 (fun i => by rw [k1]; exact m1) kin (by omega) ?_)
      refine wpAny_bind (wpAny_mono (kat_run (ks := its) (vs := its) (Q := fun st' s'' => ∃ p : Array Nat, arrOf st' = p.map (kas_item ((List.toArray its).zip its.toArray)) ∧ failedOf st' = none ∧ s'' = { s with heap := A5 } ∧ Pm xs.length p ∧ Sd (fun i j => HT.lexLt (kf i) (kf j)) p xs.length) (G := fun p s'' => s'' = { s with heap := A5 } ∧ Pm xs.length p ∧ Sd (fun i j => HT.lexLt (kf i) (kf j)) p xs.length)
        rfl (by omega) (by omega) (fun p st' s'' _ a2 a3 a4 => ⟨p, a2, a3, a4⟩) ?_) ?_ fun _ _ z => z)
      · rw [il]
        refine Asks.wp (n := xs.length) (lt := fun i j => HT.lexLt (kf i) (kf j)) (R := fun p => Pm xs.length p ∧ Sd (fun i j => HT.lexLt (kf i) (kf j)) p xs.length) (fun i j C hi hj hC => ?_) (fun p hp => ⟨rfl, hp⟩) _ (sort_ok T (by omega))
        exact keys_ask I0 k1 kin (by omega) (by omega) hC
      · rintro ⟨⟨⟩, st'⟩ s'' ⟨p, har, hf, rfl, P, S⟩
        have hs : ∀ i j, i < j → j < p.toList.length → HT.lexLt (kf (p.toList.getD i 0)) (kf (p.toList.getD j 0)) = true := fun i j ij jl => by
          have e2 : ∀ k, p.toList.getD k 0 = p.getD k 0 := fun k => by rw [List.getD_eq_getElem?_getD, atq]; simp
          rw [e2, e2]
          exact S i j ij (by rw [Array.length_toList, P.sz] at jl; exact jl)
        have hout := kat_snds (ks := its) (vs := its) rfl har
        have lo := tail st' p.toList hf hout P.pm hs
        dsimp only
        rw [hout]
        refine wpAny_bind (seqEpoch_at hD3 rfl (wpAny_bind (listUpdate_at hD3 rfl ?_ (Nat.zero_le _) (by rw [List.size_toArray, lo]; omega))))
        rw [hf]
        simp only [bne_self_eq_false, Bool.false_eq_true, if_false]
        exact wpAny_pure ⟨_, rfl, wpAny_pure ⟨_, rfl, fin p.toList P.pm hs⟩⟩
end
end L2

set_option Elab.async false
set_option linter.all false
set_option maxRecDepth 100000
set_option maxHeartbeats 4000000
namespace L2
open PySem PySem.Spec PyProof.Rows
/-! ## rows of passings -/
abbrev Row := Int × Int × Int
def Row.key (r : Row) : List Int := [r.1, r.2.1, r.2.2]
def rlt (r q : Row) : Bool := HT.lexLt (Row.key r) (Row.key q)
def rk (rows : List Row) (i : Nat) : List Int := match rows[i]? with
  | some r => Row.key r
  | none => [0, 0, 0]
noncomputable def mt (b l : Cl) (t : Int) : Option Int := open Classical in if h : ∃ u, Pass b l t (.int u) then some h.choose else none
structure RowsOf (cs : List Cl) (t : Int) (rows : List Row) : Prop where
  srt : rows.Pairwise fun r q => rlt r q = true
  mem : ∀ r : Row, r ∈ rows ↔ ∃ b f, b ∈ cs ∧ f ∈ cs ∧ ahd f b t = true ∧ mt b f t = some r.1 ∧ r.2.1 = b.n ∧ r.2.2 = f.n
structure IsRows (H : Hp) (l : Addr) (rs : List (Addr × Row)) : Prop where
  at_ : H l = some (.lst (rs.map fun r => V.ref r.1))
  rw : ∀ r, r ∈ rs → H r.1 = some (.tup ((Row.key r.2).map V.int))
end L2

set_option Elab.async false
set_option linter.all false
set_option maxRecDepth 100000
set_option maxHeartbeats 4000000
namespace L2
open PySem PySem.Spec PyProof.Rows
theorem comp_tups {K : PySem.W.Frag} {a : Addr} {xs : List V} {js : List Nat} {tc : TT} {te : TE} {σ : St} {H1 : Hp} {Q : VK} (p : Nat → Bool) (f : Nat → List V) (hl : SqL K H1 a xs)
    (ht : ∀ i x Hh (Q' : Bool → Hp → Prop), xs[i]? = some x → Same H1 Hh → (∀ Hh', Same Hh Hh' → Q' (p i) Hh') → tc (some x :: caps σ js) Hh Q')
    (he : ∀ i x Hh (Q' : VK), xs[i]? = some x → p i = true → Same H1 Hh → (∀ b Hh', Same Hh Hh' → Hh' b = some (.tup (f i)) → Q' (.ref b) Hh') → te (some x :: caps σ js) Hh Q')
    (hz : xs.length < sizeLine) (q : ∀ D H2 (bs : List (Addr × List V)), Same H1 H2 → H1 D = none → H2 D = some (.lst (bs.map fun b => V.ref b.1)) → bs.map (·.2) = ((List.range xs.length).filter p).map f → (∀ b, b ∈ bs → H2 b.1 = some (.tup b.2)) → Q (.ref D) H2) :
    CompGo (Itl K a) js tc te σ H1 Q := by
  intro D H2 s2 hD h2
  refine ⟨fun i m acc H3 => m = xs.length - i ∧ i ≤ xs.length ∧ ∃ bs : List (Addr × List V), acc = (bs.map fun b => V.ref b.1) ∧ bs.map (·.2) = ((List.range i).filter p).map f ∧ (∀ b, b ∈ bs → H3 b.1 = some (.tup b.2)) ∧ Same H1 H3 ∧ H3 D = some (.lst acc), ⟨_, rfl, Nat.zero_le _, [], rfl, by simp, fun b hb => by simp at hb, s2, h2⟩, ?_⟩
  rintro i m acc H3 ⟨rfl, hi, bs, ea, eb, hb, s3, h3⟩
  have hl3 : SqL K H3 a xs := s3.seq hl
  have hll : acc.length ≤ xs.length := by
    have e := congrArg List.length eb
    rw [List.length_map, List.length_map] at e
    rw [ea, List.length_map, e]
    refine Nat.le_trans (List.length_filter_le _ _) ?_
    rw [List.length_range]
    exact hi
  refine ⟨h3, by omega, ?_⟩
  by_cases hlt : i < xs.length
  · have hx : xs[i]? = some xs[i] := List.getElem?_eq_getElem hlt
    refine .inr ⟨⟨xs, _, hl3, hx⟩, fun y H4 z => ?_⟩
    obtain ⟨e, ey⟩ := z
    have ey2 := ey xs hl3
    subst e
    refine ht i y _ _ ey2 s3 fun H5 s5 => ?_
    have h5 := s5 _ _ h3
    have s35 := s3.trans s5
    have tk : (List.range (i + 1)).filter p = (List.range i).filter p ++ (if p i = true then [i] else []) := by
      rw [List.range_succ, List.filter_append]
      congr 1
      cases h : p i <;> simp [h]
    cases hp : p i with
    | true =>
      refine iteT (he i y _ _ ey2 hp s35 fun b6 H6 s6 g6 => ⟨s6 _ _ h5, fun H7 k7 h7 => ⟨xs.length - (i + 1), by omega, rfl, hlt, bs ++ [(b6, f i)], ?_, ?_, fun b hb' => ?_, fun b o e => ?_, h7⟩⟩)
      · rw [ea, List.map_append]
        rfl
      · rw [List.map_append, eb, tk, hp, if_pos rfl, List.map_append]
        rfl
      · have nD : ∀ c t, H6 c = some (.tup t) → c ≠ D := fun c t g z => by
          rw [z, s6 _ _ h5] at g
          cases g
        rcases List.mem_append.mp hb' with h | h
        · have g := s6 _ _ (s5 _ _ (hb b h))
          exact k7 _ _ (nD _ _ g) g
        · have : b = (b6, f i) := by simpa using h
          subst this
          exact k7 _ _ (nD _ _ g6) g6
      · by_cases hbD : b = D
        · subst hbD
          rw [hD] at e
          cases e
        · exact k7 b o hbD (s6 b o (s35 b o e))
    | false =>
      refine iteF ⟨xs.length - (i + 1), by omega, rfl, hlt, bs, ea, ?_, fun b hb' => s5 _ _ (hb b hb'), s35, h5⟩
      rw [tk, hp, if_neg Bool.false_ne_true, List.append_nil]
      exact eb
  · have e : i = xs.length := by omega
    subst e
    refine .inl ⟨⟨xs, hl3, Nat.le_refl _⟩, ?_⟩
    rw [ea] at h3
    exact q D _ bs s3 hD h3 eb hb
section
variable {X : Cx} {K : PySem.W.Frag}
theorem pe_xfldK {e : Expr} {f : Str} {pos : Pos} {ta : TE} (he : PE X e ta) (hb : attributeBase e f X.env (eval e X.env) = eval e X.env) (hK : X.K = K) : PE X (.Attribute e f pos) (tXFld K ta f) := hK ▸ pe_xfld he hb
end
section
variable {X : Cx}
def tDNewS : TE := fun _ H Q => ∀ p H2, Same H H2 → H p = none → H2 p = some (.dK []) → Q (.ref p) H2
theorem pe_dnewS {pos : Pos} : PE X (.Dict [] [] pos) tDNewS := by
  with_unfolding_all
    exact fun pins s σ H Q I h => pe_dnewK pins s σ H Q I fun p n => h p _ (same_new n _) n upd_same
end
def isStar : Expr → Bool
  | .Starred .. => true
  | _ => false
theorem star_plain {e : Expr} (h : isStar e = false) (rest : List Expr) (env : Env) : starEach (e :: rest) env = (false, eval e env) :: starEach rest env := by
  cases e <;> first | rfl | cases h
section
variable {X : Cx}
theorem pa_consP {e : Expr} {es : List Expr} {te : TE} {t : TA} (ha : PE X e te) (hr : PA X es t) (hs : isStar e = false := by rfl) : PA X (e :: es) (tCons te t) := pa_cons ha hr (star_plain hs es X.env)
end
theorem inV_mem {k : Int} : ∀ {ns : List Int}, inV (.int k) (ns.map V.int) = decide (k ∈ ns)
  | [] => by simp [inV]
  | n :: ns => by
    have ih := inV_mem (k := k) (ns := ns)
    unfold inV at ih ⊢
    rw [List.map_cons, List.any_cons, ih]
    by_cases e : k = n
    · subst e
      simp [eqV]
    · simp [eqV, e, Ne.symm e]
def tak {α : Type} (xs : List α) (P : α → Bool) (i : Nat) : Bool := match xs[i]? with
  | some x => P x
  | none => false
theorem tak_fil {α : Type} (P : α → Bool) (g : α → V) : ∀ xs : List α, ((List.range xs.length).filter (tak xs P)).map (itm xs g) = (xs.filter P).map g
  | [] => rfl
  | x :: xs => by
    rw [List.length_cons, List.range_succ_eq_map, List.filter_cons, List.filter_map]
    have e1 : (tak (x :: xs) P ∘ Nat.succ) = tak xs P := rfl
    have e2 : ∀ l : List Nat, (l.map Nat.succ).map (itm (x :: xs) g) = l.map (itm xs g) := fun l => by
      rw [List.map_map]
      rfl
    rw [e1, List.filter_cons]
    have e3 : tak (x :: xs) P 0 = P x := rfl
    rw [e3]
    cases P x with
    | true =>
      rw [if_pos rfl, if_pos rfl, List.map_cons, List.map_cons, e2, tak_fil P g xs]
      rfl
    | false =>
      rw [if_neg Bool.false_ne_true, if_neg Bool.false_ne_true, e2, tak_fil P g xs]
def itl {α : Type} (xs : List α) (g : α → List V) (i : Nat) : List V := match xs[i]? with
  | some x => g x
  | none => []
theorem tak_fll {α : Type} (P : α → Bool) (g : α → List V) : ∀ xs : List α, ((List.range xs.length).filter (tak xs P)).map (itl xs g) = (xs.filter P).map g
  | [] => rfl
  | x :: xs => by
    rw [List.length_cons, List.range_succ_eq_map, List.filter_cons, List.filter_map]
    have e1 : (tak (x :: xs) P ∘ Nat.succ) = tak xs P := rfl
    have e2 : ∀ l : List Nat, (l.map Nat.succ).map (itl (x :: xs) g) = l.map (itl xs g) := fun l => by
      rw [List.map_map]
      rfl
    rw [e1, List.filter_cons]
    have e3 : tak (x :: xs) P 0 = P x := rfl
    rw [e3]
    cases P x with
    | true =>
      rw [if_pos rfl, if_pos rfl, List.map_cons, List.map_cons, e2, tak_fll P g xs]
      rfl
    | false =>
      rw [if_neg Bool.false_ne_true, if_neg Bool.false_ne_true, e2, tak_fll P g xs]
end L2

set_option Elab.async false
set_option linter.all false
set_option maxRecDepth 100000
set_option maxHeartbeats 4000000
namespace L2
open PySem PySem.Spec PyProof.Rows
section
variable {X : Cx}
@[irreducible] def PAi (X : Cx) (es : List Expr) (t : TA) : Prop := PA X es t
theorem pai_nil : PAi X [] tNil := by
  unfold PAi
  exact pa_nil
theorem pai_cons {e : Expr} {es : List Expr} {te : TE} {t : TA} (ha : PE X e te) (hr : PAi X es t) (hs : isStar e = false := by rfl) : PAi X (e :: es) (tCons te t) := by
  unfold PAi at *
  exact pa_consP ha hr hs
theorem pai {es : List Expr} {t : TA} (h : PAi X es t) : PA X es t := by
  unfold PAi at h
  exact h
end
end L2

set_option Elab.async false
set_option linter.all false
namespace L2
open PySem
/-! ## small numbers, case by case -/
/-! ## lists of a length -/
theorem ul1 {α : Type} {us : List α} (h : us.length = 1) : ∃ a1, us = [a1] := by
  match us, h with
  | [a1], _ => exact ⟨a1, rfl⟩
theorem ul2 {α : Type} {us : List α} (h : us.length = 2) : ∃ a1 a2, us = [a1, a2] := by
  match us, h with
  | [a1, a2], _ => exact ⟨a1, a2, rfl⟩
theorem ul3 {α : Type} {us : List α} (h : us.length = 3) : ∃ a1 a2 a3, us = [a1, a2, a3] := by
  match us, h with
  | [a1, a2, a3], _ => exact ⟨a1, a2, a3, rfl⟩
theorem ul4 {α : Type} {us : List α} (h : us.length = 4) : ∃ a1 a2 a3 a4, us = [a1, a2, a3, a4] := by
  match us, h with
  | [a1, a2, a3, a4], _ => exact ⟨a1, a2, a3, a4, rfl⟩
end L2

set_option Elab.async false
set_option linter.all false
set_option maxRecDepth 100000
set_option maxHeartbeats 4000000
namespace L2
open PySem PySem.Spec PyProof.Rows
/-! ## comers: when somebody may still come and be ahead -/
def Cl.at (d : Cl) (x : Int) : Cl := ⟨d.n, d.wt, d.wb, d.st, d.sb, x⟩
def ovr (c d : Cl) (t : Int) : Bool := decide (0 < gap d c t)
def abl (c d : Cl) (x u : Int) : Bool := ovr c (d.at x) x || ovr c (d.at x) u
inductive LastAt (c d : Cl) (b u : Int) : V → Prop
  | no : (∀ x, b ≤ x → x ≤ u → abl c d x u = false) → LastAt c d b u .non
  | at (r : Int) : b ≤ r → r ≤ u → abl c d r u = true → (∀ x, r < x → x ≤ u → abl c d x u = false) → LastAt c d b u (.int r)
/-! ## comprehensions over range whose parts make things -/
/-! ## a statement that raises nothing, in a def that may raise -/
section
variable {X : Cx}
end
end L2

set_option Elab.async false
set_option linter.all false
set_option maxRecDepth 100000
set_option maxHeartbeats 4000000
namespace L2
open PySem PySem.Spec PyProof.Rows
/-! ### a list comprehension whose target is a tuple of names -/
def CompGoT (J : It) (nk : Nat) (g : TG) (js : List Nat) (tc : TT) (te : TE) (σ : St) (H1 : Hp) (Q : VK) : Prop :=
  ∀ D H2, Same H1 H2 → H1 D = none → H2 D = some (.lst []) → ∃ W : Nat → Nat → List V → Hp → Prop, (∃ m, W 0 m [] H2) ∧ ∀ i m acc H3, W i m acc H3 →
    H3 D = some (.lst acc) ∧ acc.length < sizeLine ∧ ((J.stop i H3 ∧ Q (.ref D) H3) ∨ (J.go i H3 ∧ ∀ os : St, os.length = nk → ∀ x H4, J.yld i H3 x H4 →
      g x (os ++ caps σ js) H4 fun σ5 H5 => ∃ o5 : St, o5.length = nk ∧ σ5 = o5 ++ caps σ js ∧
      tc (o5 ++ caps σ js) H5 fun b H5 => if b = true then te (o5 ++ caps σ js) H5 fun v H6 => H6 D = some (.lst acc) ∧
          ∀ H7, (∀ b o, b ≠ D → H6 b = some o → H7 b = some o) → H7 D = some (.lst (acc ++ [v])) → ∃ m', m' < m ∧ W (i + 1) m' (acc ++ [v]) H7
        else ∃ m', m' < m ∧ W (i + 1) m' acc H5))
def tCompT (wi : TI) (nk : Nat) (g : TG) (js : List Nat) (tc : TT) (te : TE) : TE := fun σ H Q => wi σ H fun J H1 => CompGoT J nk g js tc te σ H1 Q
structure CompScopeN (X : Cx) (scope : Scope) (nk : Nat) (N : List Str) (js : List Nat) : Prop where
  kind : scope.kind = .function
  nocell : ∀ y ∈ scope.names, y.2 ≠ .cell
  loc : ∀ y ∈ scope.names, y.2 = .local → scope.names.lookup y.1 = some .local
  own : ∀ (i : Nat) (x : Str), N[i]? = some x → i < nk → scope.names.lookup x = some .local
  free : ∀ y ∈ scope.names, y.2 = .free → X.env.kindOf y.1 = some .cell
  nd : N.Nodup
  len : N.length = js.length + nk
  apart : ∀ y, scope.names.lookup y = some .local → (y, NameKind.free) ∉ scope.names
  cap : ∀ (k j : Nat) (y : Str), N[k + nk]? = some y → js[k]? = some j → X.N[j]? = some y ∧ Vis X.env.scope y ∧ X.env.kindOf y = some .cell ∧ (y, NameKind.free) ∈ scope.names
theorem CompScopeN.of {X : Cx} {scope : Scope} {nk : Nat} {N : List Str} {js : List Nat} (c1 : scope.kind = .function) (c2 : (scope.names.all fun y => y.2 != .cell) = true)
    (c3 : (scope.names.all fun y => y.2 != .local || scope.names.lookup y.1 == some .local) = true) (c4 : ((N.take nk).all fun x => scope.names.lookup x == some .local) = true) (c5 : (scope.names.all fun y => y.2 != .free || X.env.kindOf y.1 == some .cell) = true)
    (nd : N.Nodup) (len : N.length = js.length + nk) (c6 : (scope.names.all fun y => y.2 != .free || scope.names.lookup y.1 != some .local) = true)
    (c7 : (((N.drop nk).zip js).all fun p => X.N[p.2]? == some p.1 && X.env.scope.names.lookup p.1 == some .cell && scope.names.contains (p.1, NameKind.free)) = true) : CompScopeN X scope nk N js where
  kind := c1
  nocell := fun y hy e => by
    have := List.all_eq_true.mp c2 y hy
    rw [e] at this
    exact absurd this (by decide)
  loc := fun y hy e => by
    have := List.all_eq_true.mp c3 y hy
    rw [e] at this
    simpa using this
  own := fun i x e h => by
    have m : x ∈ N.take nk := List.mem_of_getElem? (i := i) (by rw [List.getElem?_take, if_pos h]; exact e)
    simpa using List.all_eq_true.mp c4 x m
  free := fun y hy e => by
    have := List.all_eq_true.mp c5 y hy
    rw [e] at this
    simpa using this
  nd := nd
  len := len
  apart := fun y hl hm => by
    have := List.all_eq_true.mp c6 _ hm
    rw [hl] at this
    simp at this
  cap := fun k j y h1 h2 => by
    have hz : ((N.drop nk).zip js)[k]? = some (y, j) := by
      rw [List.getElem?_zip_eq_some]
      exact ⟨by rw [List.getElem?_drop, Nat.add_comm]; exact h1, h2⟩
    have := List.all_eq_true.mp c7 _ (List.mem_of_getElem? hz)
    simp only [Bool.and_eq_true, beq_iff_eq] at this
    obtain ⟨⟨a, b⟩, c⟩ := this
    exact ⟨a, .inr (.inl b), b, by simpa using c⟩
theorem pe_compT {X : Cx} {iter elt tg : Expr} {nk : Nat} {g : TG} {ifs : List Expr} {scope : Scope} {pos : Pos} {wi : TI} {N : List Str} {js : List Nat} {tc : TT} {te : TE}
    (hc : X.calm = true) (S : CompScopeN X scope nk N js) (hg : ∀ cl C s₀ H₀ ex, (∀ (i : Nat) (x : Str) (px : Pos), N[i]? = some x → i < nk → PG (cxComp X N scope cl C s₀ H₀ ex) (.Name x px) (gName i)) → PG (cxComp X N scope cl C s₀ H₀ ex) tg g) (hi : PI X tg iter wi)
    (ht : ∀ cl C s₀ H₀ ex, CTests (cxComp X N scope cl C s₀ H₀ ex) ifs tc) (he : ∀ cl C s₀ H₀ ex, PE (cxComp X N scope cl C s₀ H₀ ex) elt te)
    (hs : ∀ x, foldedSetIterable iter X.env x = pure x := by intro _; rfl) :
    PE X (.ListComp elt [⟨tg, iter, ifs, 0⟩] scope pos) (tCompT wi nk g js tc te) := by
  with_unfolding_all
    intro pins s σ H Q I h
    have hcells : ∀ y ∈ scope.names, y.2 = .free → ∃ c, X.env.cells.lookup y.1 = some c := fun y hy hf => I.ok.has y.1 (.inl (S.free y hy hf))
    obtain ⟨cl, ecl, cl1, cl2⟩ := closure_of hcells
    rw [eval_ListComp]
    refine wpAny_comprehension_free (use := none) rfl hs ecl S.kind S.loc (thn (hi pins s σ H _ I h) fun v s1 h1 => thn h1 fun itv s2 h2 => ?_)
    obtain ⟨it, fp, tn, J, H2, e, I2, T, st2, f2, q2⟩ := h2
    subst e
    refine wpAny_newObj_type (wpAny_newFunctionEnv S.nocell (by intro y hy; simp at hy) (fun h₁ hns₁ hsb₁ => ?_) S.kind)
    dsimp only at hns₁ hsb₁ ⊢
    generalize hP2 : s2.heap.push { cls := .type "list", dict := none, data := .seq ([] : List Value).toArray } = P2 at hns₁ hsb₁ ⊢
    have hC : P2.objs.size = s2.heap.objs.size + 1 := by rw [← hP2, Heap.size_push]
    have below : ∀ b, b < s2.heap.objs.size → b ≠ P2.objs.size ∧ b ≠ s2.heap.objs.size := fun b hb => ⟨by rw [hC]; exact Nat.ne_of_lt (Nat.lt_succ_of_lt hb), Nat.ne_of_lt hb⟩
    have hDC : s2.heap.objs.size ≠ P2.objs.size := by rw [hC]; exact Nat.ne_of_lt (Nat.lt_succ_self _)
    have old : ∀ b o, s2.heap.get? b = some o → h₁.get? b = some o := fun b o e => hsb₁.extBut b o (below b (Heap.lt_size e)).1 (Heap.get?_push_of_some _ (hP2 ▸ Heap.get?_push_of_some _ e))
    have hD : h₁.get? s2.heap.objs.size = some { cls := .type "list", dict := none, data := .seq ([] : List Value).toArray } := hsb₁.extBut _ _ hDC (Heap.get?_push_of_some _ (hP2 ▸ Heap.get?_push_size _ rfl))
    have hDn : H2 s2.heap.objs.size = none := I2.hok.fresh (Nat.le_refl _)
    have hCn : H2 P2.objs.size = none := I2.hok.fresh (by rw [hC]; exact Nat.le_succ _)
    obtain ⟨W, ⟨m0, w0⟩, turn⟩ := q2 s2.heap.objs.size _ (same_new hDn (.lst [])) hDn upd_same
    -- the block's context
    have fpl : ∀ b ∈ fp, b < s2.heap.objs.size := fun b hb => by
      obtain ⟨o, e, _⟩ := T.obj 0 _ st2 b hb
      exact Heap.lt_size e
    have yok : (cxComp X N scope cl P2.objs.size s2 H2 fp).Ok :=
      { mod := I2.ok.mod
        kind := S.kind
        glob := I2.ok.glob
        blt := I2.ok.blt
        above := by show s2.heap.objs.size ≤ P2.objs.size; rw [hC]; exact Nat.le_succ _
        inj := fun y z c h1 h2 => I2.ok.inj y z c (cl1 y c h1) (cl1 z c h2)
        has := fun y hy => by
          have hy' : (y, NameKind.free) ∈ scope.names := by
            rcases hy with hy | hy
            · exact relabel_cell (env := X.env) hy (.inl rfl) S.nocell
            · exact relabel_cell (env := X.env) hy (.inr rfl) S.nocell
          exact cl2 y hy'
        cab := fun y c hf _ => by cases hf
        hd := fun hc' => I2.ok.hd hc'
        frames := I2.ok.frames
        stk := .inl rfl
        exf := fun b hb => ⟨(below b (fpl b hb)).1, fun y c e => (f2 b hb).2.2.2.2.1 y c (cl1 y c e)⟩
        bs := I2.bs
        bsz := Nat.le_trans I2.ok.bsz I2.sz
        noex := fun b o e hb => by
          rcases (f2 b hb).2.2.2.1 with z | z
          · exact I2.ok.noex b o e z
          · exact absurd (Nat.lt_of_lt_of_le (Nat.lt_of_lt_of_le (Heap.lt_size e) I2.ok.bsz) z) (Nat.lt_irrefl _)
        exfs := fun b hb hf => by
          rcases List.mem_cons.mp (I2.stkSub b hf) with z | z
          · exact (f2 b hb).2.1 z
          · exact (f2 b hb).2.2.1 z
        funs := I2.stack
        frf := I2.stkFree }
    have hokD : HOk X.prog X.w (upd H2 s2.heap.objs.size (.lst [])) h₁ := I2.hok.laid old (Nat.le_refl _) ⟨Nat.zero_le _, [], 0, .nil, hD⟩
    have I3 : Inv (cxComp X N scope cl P2.objs.size s2 H2 fp) [] (List.replicate nk none ++ caps σ js) (upd H2 s2.heap.objs.size (.lst [])) { s2 with heap := h₁, toks := s2.toks + ([] : List (Str × Value)).length } :=
      { ok := yok
        os := rfl
        bare := I2.bare
        base := Un.laid old (Nat.le_refl _) hDn
        loc := by
          refine ⟨_, hns₁, fun i y v e1 e2 e3 => ?_⟩
          by_cases ik : i < nk
          · rw [List.getElem?_append_left (by simpa using ik), List.getElem?_replicate, if_pos ik] at e2
            cases e2
          · obtain ⟨k, rfl⟩ : ∃ k, i = k + nk := ⟨i - nk, by omega⟩
            have e2' : (caps σ js)[k]? = some (some v) := by
              rw [List.getElem?_append_right (by simp)] at e2
              simpa using e2
            unfold caps at e2'
            rw [List.getElem?_map] at e2'
            cases ej : js[k]? with
            | none => rw [ej] at e2'; cases e2'
            | some j =>
              rw [ej] at e2'
              have e4 : (σ[j]?).join = some v := Option.some.inj e2'
              have e5 : σ[j]? = some (some v) := by
                cases eσ : σ[j]? with
                | none => rw [eσ] at e4; cases e4
                | some o => rw [eσ] at e4; exact congrArg some e4
              obtain ⟨n1, n2, n3, n4⟩ := S.cap k j y e1 ej
              obtain ⟨mX, _, lX⟩ := I2.loc
              obtain ⟨u, ru, lk⟩ := lX j y v n1 e5 n2
              refine ⟨u, ru, ?_⟩
              rcases lk with ⟨lk, _⟩ | ⟨_, c, ec, cell⟩
              · rw [n3] at lk; cases lk
              · obtain ⟨c', ec'⟩ := cl2 y n4
                have : c' = c := Option.some.inj ((cl1 y c' ec').symm.trans ec)
                subst this
                obtain ⟨o, ho, hd⟩ := cell
                refine .inr ⟨?_, c', ec', ⟨o, old _ _ ho, hd⟩⟩
                -- the name is a cell or free in the block
                have e3' : (relabel scope X.env).names.lookup y = some .local ∨ (relabel scope X.env).names.lookup y = some .cell ∨ (relabel scope X.env).names.lookup y = some .free := e3
                rcases e3' with z | z | z
                · exfalso
                  have hm := PySem.mem_of_lookup z
                  obtain ⟨⟨n, k'⟩, hn, e⟩ := List.mem_map.mp hm
                  dsimp only at e
                  by_cases cc : (k' == NameKind.free && X.env.scope.kind == .function && X.env.kindOf n == some .cell) = true
                  · rw [if_pos cc] at e
                    cases e
                  · rw [if_neg cc] at e
                    cases e
                    have l1 := S.loc _ hn rfl
                    have l2 := lookup_relabel_local (env := X.env) l1
                    have f1 := S.free _ n4 rfl
                    exact S.apart y l1 n4
                · exact .inl z
                · exact .inr z
        cell := fun y c e => by
          obtain ⟨v, o, ho, hd⟩ := I2.cell y c (cl1 y c e)
          exact ⟨v, o, old _ _ ho, hd⟩
        free := by show upd H2 s2.heap.objs.size (.lst []) P2.objs.size = none; rw [upd_ne (Ne.symm hDC)]; exact hCn
        freeC := fun y c e => by
          obtain ⟨v, o, ho, hd⟩ := I2.cell y c (cl1 y c e)
          rw [upd_ne (below c (Heap.lt_size ho)).2]
          exact I2.freeC y c (cl1 y c e)
        pin := fun p hp => by simp at hp
        hok := hokD
        len := by show (List.replicate nk none ++ caps σ js).length = N.length; rw [S.len]; simp [caps, Nat.add_comm] }
    have st3 : tn 0 h₁ := T.keep 0 _ _ st2 fun b _ o e => old b o e
    have fr3 : ∀ b ∈ fp, (upd H2 s2.heap.objs.size (.lst [])) b = none := fun b hb => by
      rw [upd_ne (below b (fpl b hb)).2]
      exact (f2 b hb).1
    -- what stays true of the iterator's objects
    have stat : ∀ {H' : Hp}, (∀ b ∈ fp, H' b = none) → ∀ b ∈ fp, FpOk (cxComp X N scope cl P2.objs.size s2 H2 fp) [] H' b := fun hn b hb =>
      ⟨hn b hb, (below b (fpl b hb)).1, yok.exfs b hb, .inl hb, fun y c e => (f2 b hb).2.2.2.2.1 y c (cl1 y c e), fun p hp => by simp at hp⟩
    have pgn : PG (cxComp X N scope cl P2.objs.size s2 H2 fp) tg g := hg cl _ s2 H2 fp fun i x px e1 e2 => pg_name S.nd e1 (.inl (lookup_relabel_local (S.own i x e1 e2))) (.inr (lookup_relabel_local (S.own i x e1 e2)))
    have loop : ∀ s₃ : Shared, s₃ = { s2 with heap := h₁, toks := s2.toks + ([] : List (Str × Value)).length } →
        codeAny (model X.prog X.w) X.A (.compLoop (.ListComp elt [⟨tg, iter, ifs, 0⟩] scope pos) 0 (.ref it) (.ref s2.heap.objs.size) (compEnvC scope cl P2.objs.size X.env))
          (compPost (model X.prog X.w) X.A X.xe none (EP X pins σ Q) (.ref s2.heap.objs.size) P2.objs.size) s₃ := by
      rintro s₃ rfl
      refine codeAny_loop rfl (fun n s' => ∃ i, ∃ o : St, ∃ acc H', o.length = nk ∧ Inv (cxComp X N scope cl P2.objs.size s2 H2 fp) [] (o ++ caps σ js) H' s' ∧ tn i s'.heap ∧ (∀ b ∈ fp, H' b = none) ∧ W i n acc H') ?_ m0 ⟨0, List.replicate nk none, [], _, List.length_replicate, I3, st3, fr3, w0⟩
      rintro n s4 ⟨i, o, acc, H4, ol, I4, st4, fr4, w4⟩
      show wpAny _ X.A ((compTurn (.ListComp elt [⟨tg, iter, ifs, 0⟩] scope pos) 0 (.ref it) (.ref s2.heap.objs.size) (compEnvC scope cl P2.objs.size X.env)).onRaise (fun x => do noteFrame x (compEnvC scope cl P2.objs.size X.env); theTreesLotGoes x)) _ _ s4
      refine wpAny_noted ?_
      rw [compTurn_list]
      refine wpAny_bind (wpAny_standAt (wpAny_bind ?_))
      obtain ⟨hD4, hz4, alt⟩ := turn i n acc H4 w4
      rcases alt with ⟨stop, qn⟩ | ⟨go, step⟩
      · refine thn (T.done (cxComp X N scope cl P2.objs.size s2 H2 fp) rfl rfl rfl hc i [] s4 _ H4 _ I4 (stat fr4) st4 stop) fun r s5 ⟨hr, I5⟩ => ?_
        subst hr
        refine wpAny_pure ?_
        obtain ⟨m5, n5, _⟩ := I5.loc
        refine ⟨m5, n5, fun h' sb => ⟨.ref s2.heap.objs.size, H4, ?_, rfl, qn⟩⟩
        have k5 : ∀ b o, b ≠ P2.objs.size → s5.heap.get? b = some o → h'.get? b = some o := fun b o hb e => sb.extBut b o hb e
        have u5 := I5.base
        have nC : ∀ b o, s2.heap.get? b = some o → b ≠ P2.objs.size := fun b o e => (below b (Heap.lt_size e)).1
        refine I2.call' (s' := { s5 with heap := h' }) (ch := fp) I5.os ?_ ?_ I5.bare fun b hb => ⟨(f2 b hb).2.2.2.1, (f2 b hb).2.1, (f2 b hb).2.2.2.2.1, (f2 b hb).2.2.2.2.2⟩
        · refine ⟨fun b o e n1 n2 n3 => k5 b o (nC b o e) (u5.keep b o e n1 n2 n3), fun b o e n1 n2 n3 => ?_, u5.free, fun b o e n3 => ?_, u5.tups, u5.frzs, u5.tbls⟩
          · obtain ⟨sl, z⟩ := u5.slot b o e n1 n2 n3
            exact ⟨sl, k5 b _ (nC b o e) z⟩
          · obtain ⟨o', z⟩ := u5.there b o e n3
            exact ⟨o', k5 b o' (nC b o e) z⟩
        · intro b u e
          refine (I5.hok b u e).stay (fun c v hc q => k5 c v ?_ q) (fun _ q => q) (fun _ _ q => q) fun _ _ _ q => q
          rintro rfl
          rcases hc with z | z
          · rw [← z, show H4 P2.objs.size = none from I5.free] at e; cases e
          · have := I5.free
            rw [show H4 P2.objs.size = none from I5.free] at z
            cases z
      · refine thn (T.item (cxComp X N scope cl P2.objs.size s2 H2 fp) rfl rfl rfl hc i [] s4 _ H4 _ I4 (stat fr4) st4 go) fun r s5 ⟨u, hr, h5⟩ => ?_
        subst hr
        refine wpAny_bind (thn h5 fun _ s6 ⟨y, H6, I6, r6, y6, st6, fr6⟩ => ?_)
        have I6' := I6.pinned (stat fr6) (T.obj _ _ st6)
        refine wpAny_bind (wpAny_mono (pgn _ s6 (o ++ caps σ js) H6 y u _ I6' r6 (step o ol y _ y6)) (fun _ s7 ⟨σ7, H7, I7, o7, l7, e7, q7⟩ => ?_) fun _ _ z => z.elim)
        subst e7
        have back : ∀ {s9 : Shared} {H9 : Hp} {acc9 : List V} {m9 : Nat}, Inv (cxComp X N scope cl P2.objs.size s2 H2 fp) ([] ++ pinsAt fp s6.heap) (o7 ++ caps σ js) H9 s9 → m9 < n → W (i + 1) m9 acc9 H9 →
            ∃ m, m < n ∧ ∃ i, ∃ o : St, ∃ acc H', o.length = nk ∧ Inv (cxComp X N scope cl P2.objs.size s2 H2 fp) [] (o ++ caps σ js) H' s9 ∧ tn i s9.heap ∧ (∀ b ∈ fp, H' b = none) ∧ W i m acc H' := fun {s9 H9 acc9 m9} I9 hm w9 => by
          refine ⟨m9, hm, i + 1, o7, acc9, H9, l7, I9.unpinned, T.keep _ _ _ st6 fun b hb o e => (I9.pin (b, o) (List.mem_append_right _ (List.mem_append_right _ (mem_pinsAt hb e)))).1, fun b hb => ?_, w9⟩
          obtain ⟨o, e, d⟩ := T.obj _ _ st6 b hb
          exact (I9.pin (b, o) (List.mem_append_right _ (List.mem_append_right _ (mem_pinsAt hb e)))).2.1
        refine wpAny_bind (wpAny_mono (ht cl _ s2 H2 fp _ s7 _ _ _ I7 q7) (fun ok s8 ⟨H8, I8, q8⟩ => ?_) fun _ _ z => z.elim)
        cases ok with
        | false =>
          obtain ⟨m9, hm, w9⟩ := q8
          exact wpAny_pure ⟨rfl, back I8 hm w9⟩
        | true =>
          refine wpAny_bind (wpAny_bind (wpAny_mono (he cl _ s2 H2 fp _ s8 _ _ _ I8 q8) (fun xv s9 ⟨v9, H9, I9, r9, hD9, q9⟩ => ?_) fun _ _ z => z.elim))
          refine wpAny_bind (wpAny_mono (mt_append (X := cxComp X N scope cl P2.objs.size s2 H2 fp) _ s9 _ H9 (.ref s2.heap.objs.size) [v9] (.ref s2.heap.objs.size) [xv] (fun _ H' => H' = upd H9 s2.heap.objs.size (.lst (acc ++ [v9]))) I9 rfl (.cons r9 .nil) ⟨_, acc, v9, rfl, rfl, hD9, hz4, rfl⟩) (fun _ s10 ⟨v10, H10, I10, _, e10⟩ => ?_) fun _ _ z => z.elim)
          subst e10
          obtain ⟨m9, hm, w9⟩ := q9 _ (fun b o hb e => by rw [upd_ne hb]; exact e) upd_same
          exact wpAny_pure (wpAny_pure ⟨rfl, back I10 hm w9⟩)
    exact codeAny_compStart_list (loop _ rfl) (T.self _ 0 _ _ _ st3 (loop _ rfl))
theorem ps_setCT {X : Cx} {iter elt tg : Expr} {nk : Nat} {g : TG} {y : Str} {i : Nat} {py spos : Pos} {ifs : List Expr} {scope : Scope} {pos : Pos} {wi : TI} {N : List Str} {js : List Nat} {tc : TT} {te : TE}
    (hN : X.N.Nodup) (hiN : X.N[i]? = some y) (hyl : X.env.scope.names.lookup y = some .local)
    (hc : X.calm = true) (S : CompScopeN X scope nk N js) (hg : ∀ cl C s₀ H₀ ex, (∀ (i : Nat) (x : Str) (px : Pos), N[i]? = some x → i < nk → PG (cxComp X N scope cl C s₀ H₀ ex) (.Name x px) (gName i)) → PG (cxComp X N scope cl C s₀ H₀ ex) tg g) (hi : PI X tg iter wi)
    (ht : ∀ cl C s₀ H₀ ex, CTests (cxComp X N scope cl C s₀ H₀ ex) ifs tc) (he : ∀ cl C s₀ H₀ ex, PE (cxComp X N scope cl C s₀ H₀ ex) elt te)
    (hsw : swapsWith (.ListComp elt [⟨tg, iter, ifs, 0⟩] scope pos) (some (.Name y py)) spos.line X.env = pure true := by rfl)
    (hs : ∀ x, foldedSetIterable iter X.env x = pure x := by intro _; rfl) :
    PS X (.Assign [.Name y py] (.ListComp elt [⟨tg, iter, ifs, 0⟩] scope pos) spos) (tAsg (tCompT wi nk g js tc te) (gName i)) := by
  with_unfolding_all
    intro pins s σ H DD I h
    have hcells : ∀ y ∈ scope.names, y.2 = .free → ∃ c, X.env.cells.lookup y.1 = some c := fun y hy hf => I.ok.has y.1 (.inl (S.free y hy hf))
    obtain ⟨cl, ecl, cl1, cl2⟩ := closure_of hcells
    rw [exec_Assign_Name_used _ _ _ _ hsw]
    refine wpAny_bind (wpAny_standAt (wpAny_bind ?_))
    show wpAny _ X.A (do let _ ← comprehension (.ListComp elt [⟨tg, iter, ifs, 0⟩] scope pos) scope X.env _ (newList []) false (eval iter X.env) (some (assign (.Name y py) X.env))) _ _ s
    refine wpAny_bind (wpAny_mono (wpAny_comprehension_free (use := some (assign (.Name y py) X.env)) (Q := fun _ s' => SP X pins DD .next s') rfl hs ecl S.kind S.loc (thn (hi pins s σ H _ I h) fun v s1 h1 => thn h1 fun itv s2 h2 => ?_)) (fun _ s' hq => wpAny_pure (wpAny_pure hq)) fun _ _ e => e)
    obtain ⟨it, fp, tn, J, H2, e, I2, T, st2, f2, q2⟩ := h2
    subst e
    refine wpAny_newObj_type (wpAny_newFunctionEnv S.nocell (by intro y hy; simp at hy) (fun h₁ hns₁ hsb₁ => ?_) S.kind)
    dsimp only at hns₁ hsb₁ ⊢
    generalize hP2 : s2.heap.push { cls := .type "list", dict := none, data := .seq ([] : List Value).toArray } = P2 at hns₁ hsb₁ ⊢
    have hC : P2.objs.size = s2.heap.objs.size + 1 := by rw [← hP2, Heap.size_push]
    have below : ∀ b, b < s2.heap.objs.size → b ≠ P2.objs.size ∧ b ≠ s2.heap.objs.size := fun b hb => ⟨by rw [hC]; exact Nat.ne_of_lt (Nat.lt_succ_of_lt hb), Nat.ne_of_lt hb⟩
    have hDC : s2.heap.objs.size ≠ P2.objs.size := by rw [hC]; exact Nat.ne_of_lt (Nat.lt_succ_self _)
    have old : ∀ b o, s2.heap.get? b = some o → h₁.get? b = some o := fun b o e => hsb₁.extBut b o (below b (Heap.lt_size e)).1 (Heap.get?_push_of_some _ (hP2 ▸ Heap.get?_push_of_some _ e))
    have hD : h₁.get? s2.heap.objs.size = some { cls := .type "list", dict := none, data := .seq ([] : List Value).toArray } := hsb₁.extBut _ _ hDC (Heap.get?_push_of_some _ (hP2 ▸ Heap.get?_push_size _ rfl))
    have hDn : H2 s2.heap.objs.size = none := I2.hok.fresh (Nat.le_refl _)
    have hCn : H2 P2.objs.size = none := I2.hok.fresh (by rw [hC]; exact Nat.le_succ _)
    obtain ⟨W, ⟨m0, w0⟩, turn⟩ := q2 s2.heap.objs.size _ (same_new hDn (.lst [])) hDn upd_same
    -- the block's context
    have fpl : ∀ b ∈ fp, b < s2.heap.objs.size := fun b hb => by
      obtain ⟨o, e, _⟩ := T.obj 0 _ st2 b hb
      exact Heap.lt_size e
    have yok : (cxComp X N scope cl P2.objs.size s2 H2 fp).Ok :=
      { mod := I2.ok.mod
        kind := S.kind
        glob := I2.ok.glob
        blt := I2.ok.blt
        above := by show s2.heap.objs.size ≤ P2.objs.size; rw [hC]; exact Nat.le_succ _
        inj := fun y z c h1 h2 => I2.ok.inj y z c (cl1 y c h1) (cl1 z c h2)
        has := fun y hy => by
          have hy' : (y, NameKind.free) ∈ scope.names := by
            rcases hy with hy | hy
            · exact relabel_cell (env := X.env) hy (.inl rfl) S.nocell
            · exact relabel_cell (env := X.env) hy (.inr rfl) S.nocell
          exact cl2 y hy'
        cab := fun y c hf _ => by cases hf
        hd := fun hc' => I2.ok.hd hc'
        frames := I2.ok.frames
        stk := .inl rfl
        exf := fun b hb => ⟨(below b (fpl b hb)).1, fun y c e => (f2 b hb).2.2.2.2.1 y c (cl1 y c e)⟩
        bs := I2.bs
        bsz := Nat.le_trans I2.ok.bsz I2.sz
        noex := fun b o e hb => by
          rcases (f2 b hb).2.2.2.1 with z | z
          · exact I2.ok.noex b o e z
          · exact absurd (Nat.lt_of_lt_of_le (Nat.lt_of_lt_of_le (Heap.lt_size e) I2.ok.bsz) z) (Nat.lt_irrefl _)
        exfs := fun b hb hf => by
          rcases List.mem_cons.mp (I2.stkSub b hf) with z | z
          · exact (f2 b hb).2.1 z
          · exact (f2 b hb).2.2.1 z
        funs := I2.stack
        frf := I2.stkFree }
    have hokD : HOk X.prog X.w (upd H2 s2.heap.objs.size (.lst [])) h₁ := I2.hok.laid old (Nat.le_refl _) ⟨Nat.zero_le _, [], 0, .nil, hD⟩
    have I3 : Inv (cxComp X N scope cl P2.objs.size s2 H2 fp) [] (List.replicate nk none ++ caps σ js) (upd H2 s2.heap.objs.size (.lst [])) { s2 with heap := h₁, toks := s2.toks + ([] : List (Str × Value)).length } :=
      { ok := yok
        os := rfl
        bare := I2.bare
        base := Un.laid old (Nat.le_refl _) hDn
        loc := by
          refine ⟨_, hns₁, fun i y v e1 e2 e3 => ?_⟩
          by_cases ik : i < nk
          · rw [List.getElem?_append_left (by simpa using ik), List.getElem?_replicate, if_pos ik] at e2
            cases e2
          · obtain ⟨k, rfl⟩ : ∃ k, i = k + nk := ⟨i - nk, by omega⟩
            have e2' : (caps σ js)[k]? = some (some v) := by
              rw [List.getElem?_append_right (by simp)] at e2
              simpa using e2
            unfold caps at e2'
            rw [List.getElem?_map] at e2'
            cases ej : js[k]? with
            | none => rw [ej] at e2'; cases e2'
            | some j =>
              rw [ej] at e2'
              have e4 : (σ[j]?).join = some v := Option.some.inj e2'
              have e5 : σ[j]? = some (some v) := by
                cases eσ : σ[j]? with
                | none => rw [eσ] at e4; cases e4
                | some o => rw [eσ] at e4; exact congrArg some e4
              obtain ⟨n1, n2, n3, n4⟩ := S.cap k j y e1 ej
              obtain ⟨mX, _, lX⟩ := I2.loc
              obtain ⟨u, ru, lk⟩ := lX j y v n1 e5 n2
              refine ⟨u, ru, ?_⟩
              rcases lk with ⟨lk, _⟩ | ⟨_, c, ec, cell⟩
              · rw [n3] at lk; cases lk
              · obtain ⟨c', ec'⟩ := cl2 y n4
                have : c' = c := Option.some.inj ((cl1 y c' ec').symm.trans ec)
                subst this
                obtain ⟨o, ho, hd⟩ := cell
                refine .inr ⟨?_, c', ec', ⟨o, old _ _ ho, hd⟩⟩
                -- the name is a cell or free in the block
                have e3' : (relabel scope X.env).names.lookup y = some .local ∨ (relabel scope X.env).names.lookup y = some .cell ∨ (relabel scope X.env).names.lookup y = some .free := e3
                rcases e3' with z | z | z
                · exfalso
                  have hm := PySem.mem_of_lookup z
                  obtain ⟨⟨n, k'⟩, hn, e⟩ := List.mem_map.mp hm
                  dsimp only at e
                  by_cases cc : (k' == NameKind.free && X.env.scope.kind == .function && X.env.kindOf n == some .cell) = true
                  · rw [if_pos cc] at e
                    cases e
                  · rw [if_neg cc] at e
                    cases e
                    have l1 := S.loc _ hn rfl
                    have l2 := lookup_relabel_local (env := X.env) l1
                    have f1 := S.free _ n4 rfl
                    exact S.apart y l1 n4
                · exact .inl z
                · exact .inr z
        cell := fun y c e => by
          obtain ⟨v, o, ho, hd⟩ := I2.cell y c (cl1 y c e)
          exact ⟨v, o, old _ _ ho, hd⟩
        free := by show upd H2 s2.heap.objs.size (.lst []) P2.objs.size = none; rw [upd_ne (Ne.symm hDC)]; exact hCn
        freeC := fun y c e => by
          obtain ⟨v, o, ho, hd⟩ := I2.cell y c (cl1 y c e)
          rw [upd_ne (below c (Heap.lt_size ho)).2]
          exact I2.freeC y c (cl1 y c e)
        pin := fun p hp => by simp at hp
        hok := hokD
        len := by show (List.replicate nk none ++ caps σ js).length = N.length; rw [S.len]; simp [caps, Nat.add_comm] }
    have st3 : tn 0 h₁ := T.keep 0 _ _ st2 fun b _ o e => old b o e
    have fr3 : ∀ b ∈ fp, (upd H2 s2.heap.objs.size (.lst [])) b = none := fun b hb => by
      rw [upd_ne (below b (fpl b hb)).2]
      exact (f2 b hb).1
    -- what stays true of the iterator's objects
    have stat : ∀ {H' : Hp}, (∀ b ∈ fp, H' b = none) → ∀ b ∈ fp, FpOk (cxComp X N scope cl P2.objs.size s2 H2 fp) [] H' b := fun hn b hb =>
      ⟨hn b hb, (below b (fpl b hb)).1, yok.exfs b hb, .inl hb, fun y c e => (f2 b hb).2.2.2.2.1 y c (cl1 y c e), fun p hp => by simp at hp⟩
    have pgn : PG (cxComp X N scope cl P2.objs.size s2 H2 fp) tg g := hg cl _ s2 H2 fp fun i x px e1 e2 => pg_name S.nd e1 (.inl (lookup_relabel_local (S.own i x e1 e2))) (.inr (lookup_relabel_local (S.own i x e1 e2)))
    have loop : ∀ s₃ : Shared, s₃ = { s2 with heap := h₁, toks := s2.toks + ([] : List (Str × Value)).length } →
        codeAny (model X.prog X.w) X.A (.compLoop (.ListComp elt [⟨tg, iter, ifs, 0⟩] scope pos) 0 (.ref it) (.ref s2.heap.objs.size) (compEnvC scope cl P2.objs.size X.env))
          (compPost (model X.prog X.w) X.A X.xe (some (assign (.Name y py) X.env)) (fun _ s' => SP X pins DD .next s') (.ref s2.heap.objs.size) P2.objs.size) s₃ := by
      rintro s₃ rfl
      refine codeAny_loop rfl (fun n s' => ∃ i, ∃ o : St, ∃ acc H', o.length = nk ∧ Inv (cxComp X N scope cl P2.objs.size s2 H2 fp) [] (o ++ caps σ js) H' s' ∧ tn i s'.heap ∧ (∀ b ∈ fp, H' b = none) ∧ W i n acc H') ?_ m0 ⟨0, List.replicate nk none, [], _, List.length_replicate, I3, st3, fr3, w0⟩
      rintro n s4 ⟨i, o, acc, H4, ol, I4, st4, fr4, w4⟩
      show wpAny _ X.A ((compTurn (.ListComp elt [⟨tg, iter, ifs, 0⟩] scope pos) 0 (.ref it) (.ref s2.heap.objs.size) (compEnvC scope cl P2.objs.size X.env)).onRaise (fun x => do noteFrame x (compEnvC scope cl P2.objs.size X.env); theTreesLotGoes x)) _ _ s4
      refine wpAny_noted ?_
      rw [compTurn_list]
      refine wpAny_bind (wpAny_standAt (wpAny_bind ?_))
      obtain ⟨hD4, hz4, alt⟩ := turn i n acc H4 w4
      rcases alt with ⟨stop, qn⟩ | ⟨go, step⟩
      · refine thn (T.done (cxComp X N scope cl P2.objs.size s2 H2 fp) rfl rfl rfl hc i [] s4 _ H4 _ I4 (stat fr4) st4 stop) fun r s5 ⟨hr, I5⟩ => ?_
        subst hr
        refine wpAny_pure ?_
        obtain ⟨m5, n5, _⟩ := I5.loc
        have u5 := I5.base
        have nC : ∀ b o, s2.heap.get? b = some o → b ≠ P2.objs.size := fun b o e => (below b (Heap.lt_size e)).1
        have IX : Inv X pins σ H4 s5 := by
          refine I2.call' (s' := s5) (ch := fp) I5.os ?_ I5.hok I5.bare fun b hb => ⟨(f2 b hb).2.2.2.1, (f2 b hb).2.1, (f2 b hb).2.2.2.2.1, (f2 b hb).2.2.2.2.2⟩
          exact ⟨u5.keep, u5.slot, u5.free, u5.there, u5.tups, u5.frzs, u5.tbls⟩
        obtain ⟨g0, g1, g2, g3, g4, g5⟩ := I2.fpOk (b := P2.objs.size) (H' := H4) (by rw [hC]; exact Nat.le_succ _) I5.free
        refine wpAny_assign_Name (store_ok2 IX hN hiN (.inl hyl) (v := .ref s2.heap.objs.size) rfl (fun s6 I6 ⟨aa, sb6, ha⟩ => ?_) (.inr hyl))
        have hCa : P2.objs.size ≠ aa := by
          rcases ha with rfl | ha
          · exact g1
          · exact fun z => g4 _ _ ha z.symm
        refine ⟨m5, n5.sameBut sb6 hCa, fun h' sb => ⟨_, H4, ?_, qn⟩⟩
        exact I6.turned (t' := s6.toks) (fun b o hb e => sb.extBut b o hb e) g0 g1 g3 g4 g5
      · refine thn (T.item (cxComp X N scope cl P2.objs.size s2 H2 fp) rfl rfl rfl hc i [] s4 _ H4 _ I4 (stat fr4) st4 go) fun r s5 ⟨u, hr, h5⟩ => ?_
        subst hr
        refine wpAny_bind (thn h5 fun _ s6 ⟨y, H6, I6, r6, y6, st6, fr6⟩ => ?_)
        have I6' := I6.pinned (stat fr6) (T.obj _ _ st6)
        refine wpAny_bind (wpAny_mono (pgn _ s6 (o ++ caps σ js) H6 y u _ I6' r6 (step o ol y _ y6)) (fun _ s7 ⟨σ7, H7, I7, o7, l7, e7, q7⟩ => ?_) fun _ _ z => z.elim)
        subst e7
        have back : ∀ {s9 : Shared} {H9 : Hp} {acc9 : List V} {m9 : Nat}, Inv (cxComp X N scope cl P2.objs.size s2 H2 fp) ([] ++ pinsAt fp s6.heap) (o7 ++ caps σ js) H9 s9 → m9 < n → W (i + 1) m9 acc9 H9 →
            ∃ m, m < n ∧ ∃ i, ∃ o : St, ∃ acc H', o.length = nk ∧ Inv (cxComp X N scope cl P2.objs.size s2 H2 fp) [] (o ++ caps σ js) H' s9 ∧ tn i s9.heap ∧ (∀ b ∈ fp, H' b = none) ∧ W i m acc H' := fun {s9 H9 acc9 m9} I9 hm w9 => by
          refine ⟨m9, hm, i + 1, o7, acc9, H9, l7, I9.unpinned, T.keep _ _ _ st6 fun b hb o e => (I9.pin (b, o) (List.mem_append_right _ (List.mem_append_right _ (mem_pinsAt hb e)))).1, fun b hb => ?_, w9⟩
          obtain ⟨o, e, d⟩ := T.obj _ _ st6 b hb
          exact (I9.pin (b, o) (List.mem_append_right _ (List.mem_append_right _ (mem_pinsAt hb e)))).2.1
        refine wpAny_bind (wpAny_mono (ht cl _ s2 H2 fp _ s7 _ _ _ I7 q7) (fun ok s8 ⟨H8, I8, q8⟩ => ?_) fun _ _ z => z.elim)
        cases ok with
        | false =>
          obtain ⟨m9, hm, w9⟩ := q8
          exact wpAny_pure ⟨rfl, back I8 hm w9⟩
        | true =>
          refine wpAny_bind (wpAny_bind (wpAny_mono (he cl _ s2 H2 fp _ s8 _ _ _ I8 q8) (fun xv s9 ⟨v9, H9, I9, r9, hD9, q9⟩ => ?_) fun _ _ z => z.elim))
          refine wpAny_bind (wpAny_mono (mt_append (X := cxComp X N scope cl P2.objs.size s2 H2 fp) _ s9 _ H9 (.ref s2.heap.objs.size) [v9] (.ref s2.heap.objs.size) [xv] (fun _ H' => H' = upd H9 s2.heap.objs.size (.lst (acc ++ [v9]))) I9 rfl (.cons r9 .nil) ⟨_, acc, v9, rfl, rfl, hD9, hz4, rfl⟩) (fun _ s10 ⟨v10, H10, I10, _, e10⟩ => ?_) fun _ _ z => z.elim)
          subst e10
          obtain ⟨m9, hm, w9⟩ := q9 _ (fun b o hb e => by rw [upd_ne hb]; exact e) upd_same
          exact wpAny_pure (wpAny_pure ⟨rfl, back I10 hm w9⟩)
    exact codeAny_compStart_list (loop _ rfl) (T.self _ 0 _ _ _ st3 (loop _ rfl))
end L2

set_option Elab.async false
set_option linter.all false
set_option maxRecDepth 100000
set_option maxHeartbeats 4000000
namespace L2
open PySem PySem.Spec PyProof.Rows
/-! ## the changes, walked turn by turn -/
def Walk (cs : List Cl) (r : Row) : Prop := ∃ b f, b ∈ cs ∧ f ∈ cs ∧ b.n ≠ f.n ∧ ahd f b (r.1 - 1) = true ∧ ahd b f r.1 = true ∧ r.2.1 = b.n ∧ r.2.2 = f.n
structure Betw (cs : List Cl) (t u : Int) (rows : List Row) : Prop where
  srt : rows.Pairwise fun r q => rlt r q = true
  mem : ∀ r : Row, r ∈ rows ↔ (t < r.1 ∧ r.1 ≤ u) ∧ Walk cs r
end L2

set_option Elab.async false
set_option linter.all false
set_option maxRecDepth 100000
set_option maxHeartbeats 4000000
namespace L2
open PySem PySem.Spec PyProof.Rows
section
variable {X : Cx}
theorem op_neE (hu : X.A.units < cLine) : OpR X (compareOp .NotEq) (fun x y H Q => ∃ a b xs, x = .ref a ∧ y = .ref b ∧ SqL X.K H a xs ∧ SqL X.K H b [] ∧ Q (.bl (!xs.isEmpty)) H) := by
  intro pins s σ H x y v u Q I rx ry h
  obtain ⟨a, b, xs, rfl, rfl, hx, hy, q⟩ := h
  cases xs with
  | nil => exact op_ne_lst hu pins s σ H _ _ v u Q I rx ry ⟨a, b, [], [], rfl, rfl, hx, hy, rfl, rfl, q⟩
  | cons z zs =>
    cases rx
    cases ry
    obtain ⟨its, r, pl, hz⟩ := I.list hx
    obtain ⟨its2, r2, pl2, hz2⟩ := I.list hy
    have e1 : its.toArray.size = zs.length + 1 := by simp [← r.length]
    have e2 : its2.toArray.size = 0 := by simp [← r2.length]
    refine SeqAt.RcNeAt.lists_lengths pl.isList pl2.isList ?_ hu X.prog X.w X.xe _ ⟨.bl _, H, I, rfl, q⟩
    rw [e1, e2]
    simp
end
theorem comp_listG {K : PySem.W.Frag} {a : Addr} {xs : List V} {nk : Nat} {g : TG} {js : List Nat} {tc : TT} {te : TE} {σ : St} {H1 : Hp} {Q : VK} (o : Nat → St) (p : Nat → Bool) (f : Nat → V) (hl : SqL K H1 a xs) (ho : ∀ i, (o i).length = nk)
    (hg : ∀ i x Hh os (R : St → Hp → Prop), xs[i]? = some x → Same H1 Hh → os.length = nk → R (o i ++ caps σ js) Hh → g x (os ++ caps σ js) Hh R)
    (ht : ∀ i x Hh (Q' : Bool → Hp → Prop), xs[i]? = some x → Same H1 Hh → (∀ Hh', Same Hh Hh' → Q' (p i) Hh') → tc (o i ++ caps σ js) Hh Q')
    (he : ∀ i x Hh (Q' : VK), xs[i]? = some x → p i = true → Same H1 Hh → (∀ Hh', Same Hh Hh' → Q' (f i) Hh') → te (o i ++ caps σ js) Hh Q')
    (hz : xs.length < sizeLine) (q : ∀ D H2, Same H1 H2 → H1 D = none → H2 D = some (.lst (((List.range xs.length).filter p).map f)) → Q (.ref D) H2) :
    CompGoT (Itl K a) nk g js tc te σ H1 Q := by
  intro D H2 s2 hD h2
  refine ⟨fun i m acc H3 => m = xs.length - i ∧ i ≤ xs.length ∧ acc = ((List.range i).filter p).map f ∧ Same H1 H3 ∧ H3 D = some (.lst acc), ⟨_, rfl, Nat.zero_le _, by simp, s2, h2⟩, ?_⟩
  rintro i m acc H3 ⟨rfl, hi, ea, s3, h3⟩
  have hl3 : SqL K H3 a xs := s3.seq hl
  have hll : acc.length ≤ xs.length := by
    rw [ea, List.length_map]
    refine Nat.le_trans (List.length_filter_le _ _) ?_
    rw [List.length_range]
    exact hi
  refine ⟨h3, by omega, ?_⟩
  by_cases hlt : i < xs.length
  · have hx : xs[i]? = some xs[i] := List.getElem?_eq_getElem hlt
    refine .inr ⟨⟨xs, _, hl3, hx⟩, fun os ol y H4 z => ?_⟩
    obtain ⟨e, ey⟩ := z
    have ey2 := ey xs hl3
    subst e
    refine hg i y _ os _ ey2 s3 ol ⟨o i, ho i, rfl, ?_⟩
    refine ht i y _ _ ey2 s3 fun H5 s5 => ?_
    have h5 := s5 _ _ h3
    have s35 := s3.trans s5
    have tk : (List.range (i + 1)).filter p = (List.range i).filter p ++ (if p i = true then [i] else []) := by
      rw [List.range_succ, List.filter_append]
      congr 1
      cases h : p i <;> simp [h]
    cases hp : p i with
    | true =>
      refine iteT (he i y _ _ ey2 hp s35 fun H6 s6 => ⟨s6 _ _ h5, fun H7 k7 h7 => ⟨xs.length - (i + 1), by omega, rfl, hlt, ?_, fun b o e => ?_, h7⟩⟩)
      · rw [tk, hp, if_pos rfl, List.map_append, ← ea]
        rfl
      · by_cases hb : b = D
        · subst hb
          rw [hD] at e
          cases e
        · exact k7 b o hb (s6 b o (s35 b o e))
    | false =>
      refine iteF ⟨xs.length - (i + 1), by omega, rfl, hlt, ?_, s35, h5⟩
      rw [tk, hp, if_neg Bool.false_ne_true, List.append_nil]
      exact ea
  · have e : i = xs.length := by omega
    subst e
    refine .inl ⟨⟨xs, hl3, Nat.le_refl _⟩, ?_⟩
    rw [ea] at h3
    exact q D _ s3 hD h3
theorem comp_tupsG {K : PySem.W.Frag} {a : Addr} {xs : List V} {nk : Nat} {g : TG} {js : List Nat} {tc : TT} {te : TE} {σ : St} {H1 : Hp} {Q : VK} (o : Nat → St) (p : Nat → Bool) (f : Nat → List V) (hl : SqL K H1 a xs) (ho : ∀ i, (o i).length = nk)
    (hg : ∀ i x Hh os (R : St → Hp → Prop), xs[i]? = some x → Same H1 Hh → os.length = nk → R (o i ++ caps σ js) Hh → g x (os ++ caps σ js) Hh R)
    (ht : ∀ i x Hh (Q' : Bool → Hp → Prop), xs[i]? = some x → Same H1 Hh → (∀ Hh', Same Hh Hh' → Q' (p i) Hh') → tc (o i ++ caps σ js) Hh Q')
    (he : ∀ i x Hh (Q' : VK), xs[i]? = some x → p i = true → Same H1 Hh → (∀ b Hh', Same Hh Hh' → Hh' b = some (.tup (f i)) → Q' (.ref b) Hh') → te (o i ++ caps σ js) Hh Q')
    (hz : xs.length < sizeLine) (q : ∀ D H2 (bs : List (Addr × List V)), Same H1 H2 → H1 D = none → H2 D = some (.lst (bs.map fun b => V.ref b.1)) → bs.map (·.2) = ((List.range xs.length).filter p).map f → (∀ b, b ∈ bs → H2 b.1 = some (.tup b.2)) → Q (.ref D) H2) :
    CompGoT (Itl K a) nk g js tc te σ H1 Q := by
  intro D H2 s2 hD h2
  refine ⟨fun i m acc H3 => m = xs.length - i ∧ i ≤ xs.length ∧ ∃ bs : List (Addr × List V), acc = (bs.map fun b => V.ref b.1) ∧ bs.map (·.2) = ((List.range i).filter p).map f ∧ (∀ b, b ∈ bs → H3 b.1 = some (.tup b.2)) ∧ Same H1 H3 ∧ H3 D = some (.lst acc), ⟨_, rfl, Nat.zero_le _, [], rfl, by simp, fun b hb => by simp at hb, s2, h2⟩, ?_⟩
  rintro i m acc H3 ⟨rfl, hi, bs, ea, eb, hb, s3, h3⟩
  have hl3 : SqL K H3 a xs := s3.seq hl
  have hll : acc.length ≤ xs.length := by
    have e := congrArg List.length eb
    rw [List.length_map, List.length_map] at e
    rw [ea, List.length_map, e]
    refine Nat.le_trans (List.length_filter_le _ _) ?_
    rw [List.length_range]
    exact hi
  refine ⟨h3, by omega, ?_⟩
  by_cases hlt : i < xs.length
  · have hx : xs[i]? = some xs[i] := List.getElem?_eq_getElem hlt
    refine .inr ⟨⟨xs, _, hl3, hx⟩, fun os ol y H4 z => ?_⟩
    obtain ⟨e, ey⟩ := z
    have ey2 := ey xs hl3
    subst e
    refine hg i y _ os _ ey2 s3 ol ⟨o i, ho i, rfl, ?_⟩
    refine ht i y _ _ ey2 s3 fun H5 s5 => ?_
    have h5 := s5 _ _ h3
    have s35 := s3.trans s5
    have tk : (List.range (i + 1)).filter p = (List.range i).filter p ++ (if p i = true then [i] else []) := by
      rw [List.range_succ, List.filter_append]
      congr 1
      cases h : p i <;> simp [h]
    cases hp : p i with
    | true =>
      refine iteT (he i y _ _ ey2 hp s35 fun b6 H6 s6 g6 => ⟨s6 _ _ h5, fun H7 k7 h7 => ⟨xs.length - (i + 1), by omega, rfl, hlt, bs ++ [(b6, f i)], ?_, ?_, fun b hb' => ?_, fun b o e => ?_, h7⟩⟩)
      · rw [ea, List.map_append]
        rfl
      · rw [List.map_append, eb, tk, hp, if_pos rfl, List.map_append]
        rfl
      · have nD : ∀ c t, H6 c = some (.tup t) → c ≠ D := fun c t g z => by
          rw [z, s6 _ _ h5] at g
          cases g
        rcases List.mem_append.mp hb' with h | h
        · have g := s6 _ _ (s5 _ _ (hb b h))
          exact k7 _ _ (nD _ _ g) g
        · have : b = (b6, f i) := by simpa using h
          subst this
          exact k7 _ _ (nD _ _ g6) g6
      · by_cases hbD : b = D
        · subst hbD
          rw [hD] at e
          cases e
        · exact k7 b o hbD (s6 b o (s35 b o e))
    | false =>
      refine iteF ⟨xs.length - (i + 1), by omega, rfl, hlt, bs, ea, ?_, fun b hb' => s5 _ _ (hb b hb'), s35, h5⟩
      rw [tk, hp, if_neg Bool.false_ne_true, List.append_nil]
      exact eb
  · have e : i = xs.length := by omega
    subst e
    refine .inl ⟨⟨xs, hl3, Nat.le_refl _⟩, ?_⟩
    rw [ea] at h3
    exact q D _ bs s3 hD h3 eb hb
def sts {α : Type} (k : Nat) (xs : List α) (g : α → List V) (i : Nat) : St := match xs[i]? with
  | some x => (g x).map some
  | none => List.replicate k none
theorem sts_len {α : Type} {k : Nat} {xs : List α} {g : α → List V} (h : ∀ x, (g x).length = k) (i : Nat) : (sts k xs g i).length = k := by
  unfold sts
  cases xs[i]? with
  | none => exact List.length_replicate
  | some x => show ((g x).map some).length = k; rw [List.length_map]; exact h x
theorem len2 {os : St} (h : os.length = 2) : ∃ a b, os = [a, b] := by
  match os, h with
  | [a, b], _ => exact ⟨a, b, rfl⟩
end L2

set_option Elab.async false
set_option linter.all false
set_option maxRecDepth 100000
set_option maxHeartbeats 4000000
namespace L2
open PySem PySem.Spec PyProof.Rows
/-! ## chores: a claim and what is left -/
structure IsCh (K : PySem.W.Frag) (H : Hp) (p : Addr) (x : Cl × Int) : Prop where
  ex : ∃ pc, H p = some (.tup [.ref pc, .int x.2]) ∧ IsCl K H pc x.1
theorem IsCh.same {K : PySem.W.Frag} {H H' : Hp} {p : Addr} {x : Cl × Int} (s : Same H H') (h : IsCh K H p x) : IsCh K H' p x := let ⟨pc, a, b⟩ := h.ex; ⟨pc, s _ _ a, b.same s⟩
theorem IsCh.but {K : PySem.W.Frag} {H H' : Hp} {p q : Addr} {x : Cl × Int} {xs : List V} (s : But q H H') (hq : H q = some (.lst xs)) (h : IsCh K H p x) : IsCh K H' p x := by
  obtain ⟨pc, a, b⟩ := h.ex
  exact ⟨pc, s _ _ (fun z => by rw [z, hq] at a; cases a) a, b.but s hq⟩
structure IsChs (K : PySem.W.Frag) (H : Hp) (l : Addr) (xs : List (Addr × Cl × Int)) : Prop where
  at_ : H l = some (.lst (xs.map fun q => V.ref q.1))
  ch : ∀ q, q ∈ xs → IsCh K H q.1 q.2
theorem IsChs.same {K : PySem.W.Frag} {H H' : Hp} {l : Addr} {xs : List (Addr × Cl × Int)} (s : Same H H') (h : IsChs K H l xs) : IsChs K H' l xs := ⟨s _ _ h.at_, fun q hq => (h.ch q hq).same s⟩
theorem IsChs.but {K : PySem.W.Frag} {H H' : Hp} {l a : Addr} {xs : List (Addr × Cl × Int)} {ys : List V} (s : But a H H') (ha : H a = some (.lst ys)) (ne : l ≠ a) (h : IsChs K H l xs) : IsChs K H' l xs := ⟨s _ _ ne h.at_, fun q hq => (h.ch q hq).but s ha⟩
def kcOf (H : Hp) (p : Addr) : Addr := match H p with
  | some (.tup (.ref pc :: _)) => pc
  | _ => p
theorem IsCh.kc {K : PySem.W.Frag} {H : Hp} {p : Addr} {x : Cl × Int} (h : IsCh K H p x) : H p = some (.tup [.ref (kcOf H p), .int x.2]) ∧ IsCl K H (kcOf H p) x.1 := by
  obtain ⟨pc, a, b⟩ := h.ex
  have e : kcOf H p = pc := by
    unfold kcOf
    rw [a]
  rw [e]
  exact ⟨a, b⟩
theorem cut_ints (ns : List Int) (lo hi : Option Int) : ∃ ms : List Int, cutV (ns.map V.int) lo hi = ms.map V.int := by
  unfold cutV
  refine ⟨(ns.drop (HT.sIx (ns.map V.int).length 0 lo)).take (HT.sIx (ns.map V.int).length (ns.map V.int).length hi - HT.sIx (ns.map V.int).length 0 lo), ?_⟩
  rw [List.map_take, List.map_drop]
structure ChOk (B : Int) (x : Cl × Int) : Prop where
  ok : x.1.Ok
  l0 : 0 ≤ x.2
  l1 : x.2 ≤ 12
  cm : x.1.came ≤ B
end L2

set_option Elab.async false
set_option linter.all false
set_option maxRecDepth 100000
set_option maxHeartbeats 4000000
namespace L2
open PySem PySem.Spec PyProof.Rows
/-! ## turns of work -/
def rnk (cs : List Cl) (t : Int) (c : Cl) : Nat := (cs.filter fun o => decide (o.n ≠ c.n) && ahd o c t).length
structure RkD (cs : List Cl) (t : Int) (h i : Nat) (kvs : List (Key × V)) : Prop where
  len : kvs.length = ((cs.take i).filter fun c => decide (rnk cs t c < h)).length
  val : ∀ (k : Nat) c, k < i → cs[k]? = some c → rnk cs t c < h → valV kvs (.inl (rnk cs t c : Int)) = some (.int c.n)
  key : ∀ j : Key, valV kvs j ≠ none → ∃ (k : Nat) (c : Cl), k < i ∧ cs[k]? = some c ∧ j = .inl (rnk cs t c : Int)
/-! ### what is left behind a turn -/
def lessN (ws : List Int) (x : Cl × Int) : Int := if x.1.n ∈ ws then x.2 - 1 else x.2
def behL (H : Hp) (ws : List Int) (xs : List (Addr × Cl × Int)) : List (Addr × Cl × Int) := (xs.map fun k => (kcOf H k.1, k.2.1, lessN ws k.2)).filter fun k => decide (0 < k.2.2)
structure IsBh (H : Hp) (l : Addr) (ys : List (Addr × Cl × Int)) (bs : List (Addr × List V)) : Prop where
  at_ : H l = some (.lst (bs.map fun b => V.ref b.1))
  rw : ∀ b, b ∈ bs → H b.1 = some (.tup b.2)
  eq : bs.map (·.2) = ys.map fun k => [V.ref k.1, V.int k.2.2]
theorem IsBh.same {H H' : Hp} {l : Addr} {ys : List (Addr × Cl × Int)} {bs : List (Addr × List V)} (s : Same H H') (h : IsBh H l ys bs) : IsBh H' l ys bs := ⟨s _ _ h.at_, fun b hb => s _ _ (h.rw b hb), h.eq⟩
theorem IsBh.len {H : Hp} {l : Addr} {ys : List (Addr × Cl × Int)} {bs : List (Addr × List V)} (h : IsBh H l ys bs) : bs.length = ys.length := by
  have := congrArg List.length h.eq
  rw [List.length_map, List.length_map] at this
  exact this
def zipB (bs : List (Addr × List V)) (ys : List (Addr × Cl × Int)) : List (Addr × Cl × Int) := List.zipWith (fun b k => (b.1, k.2)) bs ys
theorem IsBh.chs {K : PySem.W.Frag} {H : Hp} {l : Addr} {ys : List (Addr × Cl × Int)} {bs : List (Addr × List V)} (h : IsBh H l ys bs) (hc : ∀ k, k ∈ ys → IsCl K H k.1 k.2.1) :
    IsChs K H l (zipB bs ys) ∧ (zipB bs ys).map (·.2) = ys.map (·.2) := by
  have hl := h.len
  have e2 : (zipB bs ys).map (·.2) = ys.map (·.2) := by
    unfold zipB
    rw [List.map_zipWith]
    refine List.ext_getElem (by simp [hl]) fun i h1 h2 => ?_
    simp
  have e1 : ((zipB bs ys).map fun q => V.ref q.1) = bs.map fun b => V.ref b.1 := by
    unfold zipB
    rw [List.map_zipWith]
    refine List.ext_getElem (by simp [hl]) fun i h1 h2 => ?_
    simp
  refine ⟨⟨by rw [e1]; exact h.at_, fun q hq => ?_⟩, e2⟩
  obtain ⟨i, hi, ei⟩ := List.getElem_of_mem hq
  have hi2 : i < bs.length ∧ i < ys.length := by
    unfold zipB at hi
    rw [List.length_zipWith] at hi
    omega
  have eq : q = (bs[i].1, ys[i].2) := by
    have e3 : (zipB bs ys)[i]? = some (bs[i].1, ys[i].2) := by
      unfold zipB
      rw [List.getElem?_zipWith, List.getElem?_eq_getElem hi2.1, List.getElem?_eq_getElem hi2.2]
    rw [List.getElem?_eq_getElem hi, ei] at e3
    exact Option.some.inj e3
  have eb : bs[i].2 = [V.ref ys[i].1, V.int ys[i].2.2] := by
    have := congrArg (fun l : List (List V) => l[i]?) h.eq
    simp [hi2.1, hi2.2] at this
    exact this
  have hb := h.rw _ (List.getElem_mem hi2.1)
  rw [eb] at hb
  subst eq
  exact ⟨ys[i].1, hb, hc _ (List.getElem_mem hi2.2)⟩
end L2
namespace L2
open PySem PySem.Spec PyProof.Rows
theorem op_inK {X : Cx} {K : PySem.W.Frag} (hK : X.K = K) : OpR X (compareOp .In) (rIn K false) := hK ▸ op_in_seq
theorem Room.units1 {k : Nat} {A : Around} (r : Room k A) : A.units + 1 < cLine := by have := r.un; omega
theorem kc_same {K : PySem.W.Frag} {H H' : Hp} {p : Addr} {x : Cl × Int} (h : IsCh K H p x) (s : Same H H') : kcOf H' p = kcOf H p := by
  obtain ⟨pc, a, _⟩ := h.ex
  unfold kcOf
  rw [a, s _ _ a]
theorem behL_same {K : PySem.W.Frag} {H H' : Hp} {l : Addr} {xs : List (Addr × Cl × Int)} (h : IsChs K H l xs) (s : Same H H') (ws : List Int) : behL H' ws xs = behL H ws xs := by
  unfold behL
  congr 1
  exact List.map_congr_left fun k hk => by rw [kc_same (h.ch k hk) s]
def isThere (t : Int) (k : Addr × Cl × Int) : Bool := decide (0 < k.2.2) && decide (k.2.1.came ≤ t)
def thereL (H : Hp) (t : Int) (xs : List (Addr × Cl × Int)) : List (Addr × Cl) := (xs.filter (isThere t)).map fun k => (kcOf H k.1, k.2.1)
def csOf (t : Int) (xs : List (Addr × Cl × Int)) : List Cl := (xs.filter (isThere t)).map (·.2.1)
theorem thereL_cs (H : Hp) (t : Int) (xs : List (Addr × Cl × Int)) : (thereL H t xs).map (·.2) = csOf t xs := by
  unfold thereL csOf
  rw [List.map_map]
  rfl
def workL (t : Int) (h : Nat) (xs : List (Addr × Cl × Int)) : List Int := ((ord (csOf t xs) t).map (·.n)).take h
theorem csOf_good {t : Int} {xs : List (Addr × Cl × Int)} (ok : ∀ q, q ∈ xs → q.2.1.Ok) (nd : (xs.map (·.2.1.n)).Nodup) : Good (csOf t xs) := by
  refine ⟨fun c hc => ?_, ?_⟩
  · obtain ⟨k, hk, rfl⟩ := List.mem_map.mp hc
    exact ok k (List.mem_filter.mp hk).1
  · unfold csOf
    rw [List.map_map]
    exact nd.sublist (List.Sublist.map _ List.filter_sublist)
theorem thereL_len (H : Hp) (t : Int) (xs : List (Addr × Cl × Int)) : (thereL H t xs).length ≤ xs.length := by
  unfold thereL
  rw [List.length_map]
  exact List.length_filter_le _ _
theorem thereL_cl {K : PySem.W.Frag} {H : Hp} {l : Addr} {xs : List (Addr × Cl × Int)} (h : IsChs K H l xs) (t : Int) {q : Addr × Cl} (hq : q ∈ thereL H t xs) : IsCl K H q.1 q.2 := by
  obtain ⟨k, hk, rfl⟩ := List.mem_map.mp hq
  exact (h.ch k (List.mem_filter.mp hk).1).kc.2
theorem thereL_refs (H : Hp) (t : Int) (xs : List (Addr × Cl × Int)) : (thereL H t xs).map (fun q => V.ref q.1) = (xs.filter (isThere t)).map fun k => V.ref (kcOf H k.1) := by
  unfold thereL
  rw [List.map_map]
  rfl
theorem behL_mem {H : Hp} {ws : List Int} {xs : List (Addr × Cl × Int)} {k : Addr × Cl × Int} (h : k ∈ behL H ws xs) : ∃ q, q ∈ xs ∧ k = (kcOf H q.1, q.2.1, lessN ws q.2) ∧ 0 < lessN ws q.2 := by
  obtain ⟨h1, h2⟩ := List.mem_filter.mp h
  obtain ⟨q, hq, rfl⟩ := List.mem_map.mp h1
  exact ⟨q, hq, rfl, of_decide_eq_true h2⟩
theorem behL_nd {H : Hp} {ws : List Int} {xs : List (Addr × Cl × Int)} (nd : (xs.map (·.2.1.n)).Nodup) : ((behL H ws xs).map (·.2.1.n)).Nodup := by
  have e : ((xs.map fun k => (kcOf H k.1, k.2.1, lessN ws k.2)).map (·.2.1.n)) = xs.map (·.2.1.n) := by
    rw [List.map_map]
    rfl
  rw [← e] at nd
  exact nd.sublist (List.Sublist.map _ List.filter_sublist)
theorem behL_len (H : Hp) (ws : List Int) (xs : List (Addr × Cl × Int)) : (behL H ws xs).length ≤ xs.length := by
  have := List.length_filter_le (fun k : Addr × Cl × Int => decide (0 < k.2.2)) (xs.map fun k => (kcOf H k.1, k.2.1, lessN ws k.2))
  rw [List.length_map] at this
  exact this
end L2
namespace L2
open PySem PySem.Spec PyProof.Rows
def plV : List V → Bool
  | [_, .int i] => decide (0 < i)
  | _ => false
theorem bh_eq {H : Hp} {ws : List Int} {xs : List (Addr × Cl × Int)} {bs : List (Addr × List V)} (eb : bs.map (·.2) = xs.map fun k => [V.ref (kcOf H k.1), V.int (lessN ws k.2)]) :
    (bs.filter fun b => plV b.2).map (·.2) = (behL H ws xs).map fun k => [V.ref k.1, V.int k.2.2] := by
  have e : (bs.filter fun b => plV b.2).map (·.2) = (bs.map (·.2)).filter plV := by
    rw [List.filter_map]
    rfl
  rw [e, eb, List.filter_map]
  unfold behL
  rw [List.filter_map, List.map_map]
  rfl
theorem fil_true {α : Type} (xs : List α) : (xs.filter fun _ => true) = xs := List.filter_eq_self.mpr fun _ _ => rfl
end L2
namespace L2
open PySem PySem.Spec PyProof.Rows
end L2

set_option Elab.async false
set_option linter.all false
set_option maxRecDepth 100000
set_option maxHeartbeats 4000000
namespace L2
open PySem PySem.Spec PyProof.Rows
/-! ## a def whose last parameter has None as its default -/
structure FunD (K : PySem.W.Frag) (x qual : Str) (st : Stmt) (f : Addr) (fd : FuncData) : Prop where
  ex : ∃ (oc : Value) (od : Option Addr) (T : Addr) (kV doc pm : Value) (an : Option Addr) (cdv ct : Value) (osl : Array (Option Value)) (o : Obj) (n : Nat),
    fd = PySem.W.fnOf x qual (defArgs st) (defBody st) (defScope st) (.ref T) kV doc pm an cdv ct ∧ K.lookup f = some ⟨oc, od, .func fd, osl⟩ ∧ PySem.W.codeIn K cdv qual = true ∧ K.lookup T = some o ∧ o.data = .seq #[.none] n
  kp : PySem.W.keepIn K (.ref f) = true
theorem funD_mk {K : PySem.W.Frag} {x qual : Str} {st : Stmt} {f T : Addr} {oc : Value} {od an : Option Addr} {osl : Array (Option Value)} {kV doc pm cdv ct : Value} {o : Obj} {n : Nat}
    (l : K.lookup f = some ⟨oc, od, .func (PySem.W.fnOf x qual (defArgs st) (defBody st) (defScope st) (.ref T) kV doc pm an cdv ct), osl⟩) (c : PySem.W.codeIn K cdv qual = true) (k : PySem.W.keepIn K (.ref f) = true)
    (t : K.lookup T = some o) (d : o.data = .seq #[.none] n) : FunD K x qual st f (PySem.W.fnOf x qual (defArgs st) (defBody st) (defScope st) (.ref T) kV doc pm an cdv ct) := ⟨⟨oc, od, T, kV, doc, pm, an, cdv, ct, osl, o, n, rfl, l, c, t, d⟩, k⟩
theorem FunD.ok {P : Program} {w : World} {K : PySem.W.Frag} {mg : Str → Option Value} {base : Heap} {x qual : Str} {st : Stmt} {f : Addr} {fd : FuncData} {N ps : List Str} {k : Nat} {sp : Sp} (F : FunD K x qual st f fd) (S : FnScope N ps (defScope st)) (len : ∀ vs H Q E, sp vs H Q E → vs.length = ps.length)
    (hbody : ∀ (cdv : Value) (A : Around) (outer : List Env) (s : Shared) (H : Hp) (vs : List V) (Q : VK) (E : XK), Room k (A.deeper (envOfC qual (defScope st) s.heap.objs.size f cdv)) → sp vs H Q E →
      ∃ t, PSs (cxOf CX0 P w K mg base N qual (defScope st) f cdv A outer s H E).nox (defBody st) t ∧ t { nx := fun _ H' => Q .non H', rt := Q } (start N vs) H) : FnOk P w K mg base CX0 (k + 1) f fd ps sp := by
  obtain ⟨oc, od, T, kV, doc, pm, an, cdv, ct, osl, o, n, rfl, lk, hcd, _, _⟩ := F.ex
  refine fn_of lk hcd S len fun A outer s H vs Q E hr hsp => ?_
  obtain ⟨t, h, q⟩ := hbody cdv A outer s H vs Q E hr hsp
  exact ⟨t, h.nox, q⟩
theorem FunD.binds {K : PySem.W.Frag} {x qual : Str} {st : Stmt} {f : Addr} {fd : FuncData} {ps : List Str} (F : FunD K x qual st f fd)
    (h : ∀ (dV kV doc pm : Value) (an : Option Addr) (cdv ct : Value) (us : List Value), us.length = ps.length → ∃ k : Option (Array Value) → Sem (List (Str × Value)), bindArgs (PySem.W.fnOf x qual (defArgs st) (defBody st) (defScope st) dV kV doc pm an cdv ct) ⟨us, []⟩ = (seqItems? dV >>= k) ∧ k (some #[.none]) = pure (ps.zip us)) : Binds K fd ps [] := by
  obtain ⟨oc, od, T, kV, doc, pm, an, cdv, ct, osl, o, n, rfl, lk, hcd, t, d⟩ := F.ex
  intro s us KX hl
  obtain ⟨k, k1, k2⟩ := h (.ref T) kV doc pm an cdv ct us (by simpa using hl)
  exact BindsTo.of_defaults (T := T) (o := o) (items := #[.none]) (n := n) (k := k) rfl (KX T o t) d k1 (by rw [k2, List.append_nil])
theorem FunD.bindsD {K : PySem.W.Frag} {x qual : Str} {st : Stmt} {f : Addr} {fd : FuncData} {ps : List Str} (F : FunD K x qual st f fd)
    (h : ∀ (dV kV doc pm : Value) (an : Option Addr) (cdv ct : Value) (us : List Value), (us ++ [Value.none]).length = ps.length → ∃ k : Option (Array Value) → Sem (List (Str × Value)), bindArgs (PySem.W.fnOf x qual (defArgs st) (defBody st) (defScope st) dV kV doc pm an cdv ct) ⟨us, []⟩ = (seqItems? dV >>= k) ∧ k (some #[.none]) = pure (ps.zip (us ++ [.none]))) : Binds K fd ps [.none] := by
  obtain ⟨oc, od, T, kV, doc, pm, an, cdv, ct, osl, o, n, rfl, lk, hcd, t, d⟩ := F.ex
  intro s us KX hl
  obtain ⟨k, k1, k2⟩ := h (.ref T) kV doc pm an cdv ct us hl
  exact BindsTo.of_defaults (T := T) (o := o) (items := #[.none]) (n := n) (k := k) rfl (KX T o t) d k1 k2
structure DfnD (K : PySem.W.Frag) (mg : Str → Option Value) (x : Str) (st : Stmt) (ps : List Str) (f : Addr) (fd : FuncData) : Prop where
  F : FunD K x x st f fd
  b : Binds K fd ps []
  bd : Binds K fd ps [.none]
  m : mg x = some (.ref f)
structure CalD (P : Program) (w : World) (K : PySem.W.Frag) (mg : Str → Option Value) (base : Heap) (x : Str) (k : Nat) (ps : List Str) (sp : Sp) : Prop where
  ex : ∃ f fd, FnOk P w K mg base CX0 k f fd ps sp ∧ Binds K fd ps [] ∧ Binds K fd ps [.none] ∧ mg x = some (.ref f) ∧ PySem.W.keepIn K (.ref f) = true
theorem DfnD.cal {P : Program} {w : World} {K : PySem.W.Frag} {mg : Str → Option Value} {base : Heap} {x : Str} {st : Stmt} {ps : List Str} {f : Addr} {fd : FuncData} {k : Nat} {sp : Sp}
    (D : DfnD K mg x st ps f fd) (G : FnOk P w K mg base CX0 k f fd ps sp) : CalD P w K mg base x k ps sp := ⟨⟨f, fd, G, D.b, D.bd, D.m, D.F.kp⟩⟩
section
variable {X : Cx} {k : Nat} {ps : List Str} {sp : Sp} {x : Str} {p pos : Pos} {e : Expr} {es : List Expr} {t : TA}
theorem pe_calD (C : CalD X.prog X.w X.K X.mg X.base x k ps sp) (hr : Room k X.A) (hg : Gl X x) (ha : PA X (e :: es) t) (hdb : (x == ("__debug__" : Str)) = false := by decide)
    (he : starEach (e :: es) X.env = (false, eval e X.env) :: starEach es X.env := by rfl) (hpl : (backTo pos (starEach es X.env)).any (·.1) = false := by rfl) :
    PE X (.Call (.Name x p) (e :: es) [] pos) (tCall sp [.non] E0 t) := by
  obtain ⟨f, fd, G, _, b, m, kp⟩ := C.ex
  exact pe_call G hr hg m kp b (.cons rfl .nil) pass0 ha hdb he hpl
end
end L2

set_option Elab.async false
set_option linter.all false
set_option maxRecDepth 100000
set_option maxHeartbeats 4000000
namespace L2
open PySem PySem.Spec PyProof.Rows
/-! ## runs, by what the chores hold -/
abbrev Ch := List (Cl × Int)
def csC (t : Int) (c : Ch) : List Cl := (c.filter fun k => decide (0 < k.2) && decide (k.1.came ≤ t)).map (·.1)
def wkC (t : Int) (h : Nat) (c : Ch) : List Int := ((ord (csC t c) t).map (·.n)).take h
def bhC (ws : List Int) (c : Ch) : Ch := (c.map fun k => (k.1, lessN ws k)).filter fun k => decide (0 < k.2)
theorem csOf_C (t : Int) (xs : List (Addr × Cl × Int)) : csOf t xs = csC t (xs.map (·.2)) := by
  unfold csOf csC
  rw [List.filter_map, List.map_map]
  rfl
theorem workL_C (t : Int) (h : Nat) (xs : List (Addr × Cl × Int)) : workL t h xs = wkC t h (xs.map (·.2)) := by
  unfold workL wkC
  rw [csOf_C]
theorem behL_C (H : Hp) (ws : List Int) (xs : List (Addr × Cl × Int)) : (behL H ws xs).map (·.2) = bhC ws (xs.map (·.2)) := by
  unfold behL bhC
  rw [List.filter_map, List.filter_map, List.map_map, List.filter_map, List.map_map]
  rfl
def runN (h : Nat) : Nat → Int → Ch → List (Int × List Int) × Ch
  | 0, _, c => ([], c)
  | n + 1, t, c => let r := runN h n t c; (r.1 ++ [(t + n, wkC (t + n) h r.2)], bhC (wkC (t + n) h r.2) r.2)
def sumC (c : Ch) : Nat := (c.map fun k => k.2.toNat).sum
theorem bhC_pos {ws : List Int} {c : Ch} {k : Cl × Int} (h : k ∈ bhC ws c) : 0 < k.2 := of_decide_eq_true (List.mem_filter.mp h).2
theorem sum_bh (ws : List Int) : ∀ c : Ch, sumC (bhC ws c) ≤ sumC c
  | [] => Nat.le_refl _
  | k :: c => by
    have ih := sum_bh ws c
    have e : bhC ws (k :: c) = (if decide (0 < lessN ws k) = true then [(k.1, lessN ws k)] else []) ++ bhC ws c := by
      unfold bhC
      rw [List.map_cons, List.filter_cons]
      split <;> rfl
    rw [e]
    have le : lessN ws k ≤ k.2 := by
      unfold lessN
      split <;> omega
    unfold sumC at *
    split
    · simp
      omega
    · simp
      omega
theorem sum_lt {ws : List Int} : ∀ {c : Ch} {k : Cl × Int}, k ∈ c → 0 < k.2 → k.1.n ∈ ws → sumC (bhC ws c) < sumC c
  | j :: c, k, hk, pos, hw => by
    have ih := sum_bh ws c
    have e : bhC ws (j :: c) = (if decide (0 < lessN ws j) = true then [(j.1, lessN ws j)] else []) ++ bhC ws c := by
      unfold bhC
      rw [List.map_cons, List.filter_cons]
      split <;> rfl
    rw [e]
    have le : lessN ws j ≤ j.2 := by
      unfold lessN
      split <;> omega
    rcases List.mem_cons.mp hk with rfl | hk
    · have lt : lessN ws k = k.2 - 1 := by
        unfold lessN
        rw [if_pos hw]
      unfold sumC at *
      split
      · simp
        omega
      · simp
        omega
    · have ih2 := sum_lt hk pos hw
      unfold sumC at *
      split
      · simp
        omega
      · simp
        omega
theorem run_down {t : Int} {h : Nat} {c : Ch} (h0 : 0 < h) (hc : c ≠ []) (pos : ∀ k, k ∈ c → 0 < k.2) (cm : ∀ k, k ∈ c → k.1.came ≤ 1000) : sumC (bhC (wkC t h c) c) + (1001 - (t + 1)).toNat < sumC c + (1001 - t).toNat := by
  by_cases e : csC t c = []
  · -- nobody is there yet
    have late : t < 1000 := by
      cases c with
      | nil => exact (hc rfl).elim
      | cons k c =>
        have : k ∉ (k :: c).filter fun k => decide (0 < k.2) && decide (k.1.came ≤ t) := fun z => by
          have : k.1 ∈ csC t (k :: c) := List.mem_map.mpr ⟨k, z, rfl⟩
          rw [e] at this
          cases this
        have p := pos k List.mem_cons_self
        have q := cm k List.mem_cons_self
        refine Int.not_le.mp fun z => this (List.mem_filter.mpr ⟨List.mem_cons_self, ?_⟩)
        rw [decide_eq_true p, decide_eq_true (show k.1.came ≤ t by omega)]
        rfl
    have := sum_bh (wkC t h c) c
    omega
  · have lo : (ord (csC t c) t).length = (csC t c).length := (ord_perm _ _).length_eq
    have lp : 0 < (csC t c).length := List.length_pos_iff.mpr e
    obtain ⟨x, xs, eo⟩ := List.exists_cons_of_ne_nil (show ord (csC t c) t ≠ [] from fun z => by rw [z] at lo; simp at lo; omega)
    have hm : x.n ∈ wkC t h c := by
      unfold wkC
      rw [eo]
      cases h with
      | zero => omega
      | succ h => simp
    have mem : x ∈ csC t c := (ord_perm (csC t c) t).mem_iff.mp (by rw [eo]; exact List.mem_cons_self)
    obtain ⟨k, hk, ek⟩ := List.mem_map.mp mem
    rw [← ek] at hm
    have hk := (List.mem_filter.mp hk).1
    have := sum_lt (ws := wkC t h c) hk (pos k hk) hm
    omega
end L2
namespace L2
open PySem PySem.Spec PyProof.Rows
theorem bhC_nil (c : Ch) : bhC [] c = c.filter fun k => decide (0 < k.2) := by
  unfold bhC
  have e : (c.map fun k => (k.1, lessN [] k)) = c := by
    have : ∀ k : Cl × Int, (k.1, lessN [] k) = k := fun k => by
      unfold lessN
      rw [if_neg (by simp)]
    rw [show (fun k : Cl × Int => (k.1, lessN [] k)) = id from funext this, List.map_id]
  rw [e]
theorem rwN_succ (h n : Nat) (t : Int) (c : Ch) : runN h (n + 1) t c = ((runN h n t c).1 ++ [(t + n, wkC (t + n) h (runN h n t c).2)], bhC (wkC (t + n) h (runN h n t c).2) (runN h n t c).2) := rfl
theorem rwN_len (h : Nat) (t : Int) (c : Ch) : ∀ n, (runN h n t c).1.length = n
  | 0 => rfl
  | n + 1 => by
    rw [rwN_succ, List.length_append, rwN_len h t c n]
    rfl
theorem run_uniq {h : Nat} {t : Int} {c : Ch} {n m : Nat} (e1 : (runN h n t c).2 = []) (l1 : ∀ k, k < n → (runN h k t c).2 ≠ []) (e2 : (runN h m t c).2 = []) (l2 : ∀ k, k < m → (runN h k t c).2 ≠ []) : n = m := by
  rcases Nat.lt_trichotomy n m with z | z | z
  · exact (l2 n z e1).elim
  · exact z
  · exact (l1 m z e2).elim
structure IsRun (H : Hp) (l : Addr) (rs : List (Addr × Addr × Int × List Int)) : Prop where
  at_ : H l = some (.lst (rs.map fun r => V.ref r.1))
  row : ∀ r, r ∈ rs → H r.1 = some (.tup [.int r.2.2.1, .ref r.2.1])
  num : ∀ r, r ∈ rs → H r.2.1 = some (.lst (r.2.2.2.map V.int))
theorem IsRun.same {H H' : Hp} {l : Addr} {rs : List (Addr × Addr × Int × List Int)} (s : Same H H') (h : IsRun H l rs) : IsRun H' l rs := ⟨s _ _ h.at_, fun r hr => s _ _ (h.row r hr), fun r hr => s _ _ (h.num r hr)⟩
theorem IsRun.app {H H' : Hp} {l p m : Addr} {rs : List (Addr × Addr × Int × List Int)} {t : Int} {ws : List Int} (h : IsRun H l rs) (k : But l H H') (e : H' l = some (.lst ((rs.map fun r => V.ref r.1) ++ [.ref p]))) (hp : H p = some (.tup [.int t, .ref m])) (hm : H m = some (.lst (ws.map V.int)))
    (ne : m ≠ l) (nl : ∀ r, r ∈ rs → r.2.1 ≠ l) : IsRun H' l (rs ++ [(p, m, t, ws)]) := by
  have np : ∀ q ys, H q = some (.tup ys) → q ≠ l := fun q ys g z => by
    rw [z, h.at_] at g
    cases g
  refine ⟨by rw [e, List.map_append]; rfl, fun r hr => ?_, fun r hr => ?_⟩
  · rcases List.mem_append.mp hr with hr | hr
    · exact k _ _ (np _ _ (h.row r hr)) (h.row r hr)
    · rw [List.mem_singleton.mp hr]
      exact k _ _ (np _ _ hp) hp
  · rcases List.mem_append.mp hr with hr | hr
    · exact k _ _ (nl r hr) (h.num r hr)
    · rw [List.mem_singleton.mp hr]
      exact k _ _ ne hm
theorem IsRun.deq {K : PySem.W.Frag} {H : Hp} {l m : Addr} {rs qs : List (Addr × Addr × Int × List Int)} (h1 : IsRun H l rs) (h2 : IsRun H m qs) (e : rs.map (fun r => (r.2.2.1, r.2.2.2)) = qs.map (fun r => (r.2.2.1, r.2.2.2))) :
    rs.length = qs.length ∧ ∀ (j : Nat) u v, (rs.map fun r => V.ref r.1)[j]? = some u → (qs.map fun r => V.ref r.1)[j]? = some v → Deq K H 9 u v := by
  refine ⟨by have := congrArg List.length e; rw [List.length_map, List.length_map] at this; exact this, fun j u v hu hv => ?_⟩
  rw [List.getElem?_map] at hu hv
  cases e1 : rs[j]? with
  | none => rw [e1] at hu; cases hu
  | some r =>
    cases e2 : qs[j]? with
    | none => rw [e2] at hv; cases hv
    | some q =>
      rw [e1] at hu
      rw [e2] at hv
      cases hu
      cases hv
      have ee := congrArg (fun l : List (Int × List Int) => l[j]?) e
      simp [e1, e2] at ee
      have hr := List.mem_of_getElem? e1
      have hq := List.mem_of_getElem? e2
      refine Deq.tup (SqT.of (h1.row r hr)) (SqT.of (h2.row q hq)) rfl fun i x y hx hy => ?_
      match i with
      | 0 =>
        cases hx
        cases hy
        rw [ee.1]
        exact Deq.int _ _
      | 1 =>
        cases hx
        cases hy
        refine Deq.lst (SqL.of (h1.num r hr)) (SqL.of (h2.num q hq)) (by rw [List.length_map, List.length_map, ee.2]) fun i x y hx hy => ?_
        rw [ee.2, hy] at hx
        cases hx
        obtain ⟨n, _, rfl⟩ := List.mem_map.mp (List.mem_of_getElem? hy)
        exact Deq.int _ _
      | i + 2 => cases hx
end L2

set_option Elab.async false
set_option linter.all false
set_option maxRecDepth 100000
set_option maxHeartbeats 4000000
namespace L2
open PySem PySem.Spec PyProof.Rows
/-! ## walking the keys of a dict: it is frozen from then on (read, never written) -/
theorem key_rel {P : Program} {w : World} {k : Key} {u : Value} (h : (mixKind P w).is k u = true) : RelV (kV k) u := by
  rw [mixKind_is] at h
  cases k with
  | inl i =>
    cases u <;> first
      | (exact absurd h Bool.false_ne_true)
      | (have h : (_ == _) = true := h; rw [beq_iff_eq] at h; subst h; exact ⟨_, rfl⟩)
  | inr x =>
    cases u <;> first
      | (exact absurd h Bool.false_ne_true)
      | (have h : (_ == _) = true := h; rw [beq_iff_eq] at h; subst h; exact ⟨_, rfl⟩)
theorem frz_at {P : Program} {w : World} {H : Hp} {h : Heap} {a : Addr} {o : Obj} {kvs : List (Key × V)} {es : Array DictEntry} {ep : Nat} (ok : HOk P w H h) (e : H a = some (.frz o (.dK kvs))) (d : o.data = .dict es ep) :
    ∃ vs, KV kvs vs ∧ h.DictAt (mixKind P w) a vs ep := by
  obtain ⟨ho, _, _, vs, rel, ob, es', ep', h1, h2, h3, h4⟩ := (show h.get? a = some o ∧ ObjOk P w H h a (.dK kvs) from ok a _ e)
  rw [ho] at h1
  cases h1
  rw [d] at h3
  cases h3
  exact ⟨vs, rel, o, es, ho, h2, d, h4⟩
section
variable {X : Cx} {tg : Expr}
end
section
variable {X : Cx}
end
end L2

set_option Elab.async false
set_option linter.all false
set_option maxRecDepth 100000
set_option maxHeartbeats 4000000
namespace L2
open PySem PySem.Spec PyProof.Rows
/-! ## dicts from whole numbers to whole numbers; last turns -/
def dI (L : List (Int × Int)) : List (Key × V) := L.map fun p => (.inl p.1, V.int p.2)
def valI (L : List (Int × Int)) (k : Int) : Option Int := (L.find? fun p => decide (p.1 = k)).map (·.2)
def putI (L : List (Int × Int)) (k v : Int) : List (Int × Int) := if (L.any fun p => decide (p.1 = k)) = true then L.map (fun p => if p.1 = k then (p.1, v) else p) else L ++ [(k, v)]
theorem dI_val (L : List (Int × Int)) (k : Int) : valV (dI L) (.inl k) = (valI L k).map V.int := by
  induction L with
  | nil => rfl
  | cons p L ih =>
    unfold dI valI at *
    rw [List.map_cons]
    by_cases e : p.1 = k
    · rw [valV_pos (by rw [e]), List.find?_cons_of_pos (by simp [e])]
      rfl
    · rw [valV_neg (fun z => e (Sum.inl.inj z)), List.find?_cons_of_neg (by simp [e])]
      exact ih
theorem dI_any (L : List (Int × Int)) (k : Int) : ((dI L).any fun kv => decide (kv.1 = .inl k)) = L.any fun p => decide (p.1 = k) := by
  induction L with
  | nil => rfl
  | cons p L ih =>
    unfold dI at *
    rw [List.map_cons, List.any_cons, List.any_cons, ih]
    congr 1
    by_cases e : p.1 = k
    · simp [e]
    · rw [decide_eq_false e]
      exact decide_eq_false fun z => e (Sum.inl.inj z)
theorem dI_put (L : List (Int × Int)) (k v : Int) : putK (dI L) (.inl k) (.int v) = dI (putI L k v) := by
  unfold putK putI
  rw [dI_any]
  by_cases c : (L.any fun p => decide (p.1 = k)) = true
  · rw [if_pos c, if_pos c]
    unfold dI
    rw [List.map_map, List.map_map]
    refine List.map_congr_left fun p _ => ?_
    show (if (Sum.inl p.1 : Key) = .inl k then _ else _) = _
    by_cases e : p.1 = k
    · rw [if_pos (by rw [e])]
      show _ = (fun q : Int × Int => ((Sum.inl q.1 : Key), V.int q.2)) (if p.1 = k then (p.1, v) else p)
      rw [if_pos e]
    · rw [if_neg (fun z => e (Sum.inl.inj z))]
      show _ = (fun q : Int × Int => ((Sum.inl q.1 : Key), V.int q.2)) (if p.1 = k then (p.1, v) else p)
      rw [if_neg e]
  · rw [if_neg c, if_neg c]
    unfold dI
    rw [List.map_append]
    rfl
theorem dI_len (L : List (Int × Int)) : (dI L).length = L.length := List.length_map _
theorem putI_len (L : List (Int × Int)) (k v : Int) : (putI L k v).length ≤ L.length + 1 := by
  unfold putI
  split
  · rw [List.length_map]
    omega
  · rw [List.length_append]
    exact Nat.le_refl _
def lastR (t : Int) : List Int → List (Int × Int) → List (Int × Int)
  | [], L => L
  | n :: ns, L => lastR t ns (putI L n t)
def lastI : List (Int × List Int) → List (Int × Int) → List (Int × Int)
  | [], L => L
  | r :: rs, L => lastI rs (lastR r.1 r.2 L)
theorem lastR_snoc (t n : Int) : ∀ (ns : List Int) (L : List (Int × Int)), lastR t (ns ++ [n]) L = putI (lastR t ns L) n t
  | [], L => rfl
  | m :: ns, L => lastR_snoc t n ns (putI L m t)
theorem lastI_snoc (r : Int × List Int) : ∀ (rs : List (Int × List Int)) (L : List (Int × Int)), lastI (rs ++ [r]) L = lastR r.1 r.2 (lastI rs L)
  | [], L => rfl
  | q :: rs, L => lastI_snoc r rs (lastR q.1 q.2 L)
theorem lastR_len (t : Int) : ∀ (ns : List Int) (L : List (Int × Int)), (lastR t ns L).length ≤ L.length + ns.length
  | [], L => Nat.le_refl _
  | n :: ns, L => by
    have a := lastR_len t ns (putI L n t)
    have b := putI_len L n t
    show (lastR t ns (putI L n t)).length ≤ _
    rw [List.length_cons]
    omega
theorem lastI_len {B : Nat} : ∀ (rs : List (Int × List Int)) (L : List (Int × Int)), (∀ r, r ∈ rs → r.2.length ≤ B) → (lastI rs L).length ≤ L.length + B * rs.length
  | [], L, _ => Nat.le_refl _
  | r :: rs, L, h => by
    have a := lastI_len rs (lastR r.1 r.2 L) fun q hq => h q (List.mem_cons_of_mem _ hq)
    have b := lastR_len r.1 r.2 L
    have c := h r List.mem_cons_self
    show (lastI rs (lastR r.1 r.2 L)).length ≤ _
    rw [List.length_cons, Nat.mul_succ]
    omega
theorem dget_I {H : Hp} {a : Addr} {L : List (Int × Int)} (h : Rd H a (.dK (dI L))) (k : Int) : DGet H a (.int k) ((valI L k).map V.int) := .inl ⟨_, .inl k, h, rfl, (dI_val L k).symm⟩
theorem Rd.same {H H' : Hp} {a : Addr} {u : HO} (s : Same H H') (h : Rd H a u) : Rd H' a u := h.imp (s _ _) fun ⟨o, e⟩ => ⟨o, s _ _ e⟩
/-! the keys -/
theorem putI_keys (L : List (Int × Int)) (k v : Int) : (putI L k v).map (·.1) = if k ∈ L.map (·.1) then L.map (·.1) else L.map (·.1) ++ [k] := by
  unfold putI
  by_cases c : k ∈ L.map (·.1)
  · rw [if_pos c, if_pos]
    · rw [List.map_map]
      refine List.map_congr_left fun p _ => ?_
      show (if p.1 = k then (p.1, v) else p).1 = p.1
      split <;> rfl
    · obtain ⟨p, hp, e⟩ := List.mem_map.mp c
      exact List.any_eq_true.mpr ⟨p, hp, decide_eq_true e⟩
  · rw [if_neg c, if_neg]
    · rw [List.map_append]
      rfl
    · intro z
      obtain ⟨p, hp, e⟩ := List.any_eq_true.mp z
      exact c (List.mem_map.mpr ⟨p, hp, of_decide_eq_true e⟩)
theorem putI_mem {L : List (Int × Int)} {k v j : Int} (h : j ∈ (putI L k v).map (·.1)) : j ∈ L.map (·.1) ∨ j = k := by
  rw [putI_keys] at h
  split at h
  · exact .inl h
  · rcases List.mem_append.mp h with h | h
    · exact .inl h
    · exact .inr (List.mem_singleton.mp h)
theorem lastR_mem {t j : Int} : ∀ {ns : List Int} {L : List (Int × Int)}, j ∈ (lastR t ns L).map (·.1) → j ∈ L.map (·.1) ∨ j ∈ ns
  | [], L, h => .inl h
  | n :: ns, L, h => by
    rcases lastR_mem (ns := ns) h with h | h
    · rcases putI_mem h with h | h
      · exact .inl h
      · exact .inr (by rw [h]; exact List.mem_cons_self)
    · exact .inr (List.mem_cons_of_mem _ h)
theorem lastI_mem {j : Int} : ∀ {rs : List (Int × List Int)} {L : List (Int × Int)}, j ∈ (lastI rs L).map (·.1) → j ∈ L.map (·.1) ∨ ∃ r, r ∈ rs ∧ j ∈ r.2
  | [], L, h => .inl h
  | r :: rs, L, h => by
    rcases lastI_mem (rs := rs) h with h | ⟨q, hq, h⟩
    · rcases lastR_mem h with h | h
      · exact .inl h
      · exact .inr ⟨r, List.mem_cons_self, h⟩
    · exact .inr ⟨q, List.mem_cons_of_mem _ hq, h⟩
theorem bhC_sub {ws : List Int} {c : Ch} {j : Int} (h : j ∈ (bhC ws c).map (·.1.n)) : j ∈ c.map (·.1.n) := by
  obtain ⟨k, hk, rfl⟩ := List.mem_map.mp h
  obtain ⟨q, hq, rfl⟩ := List.mem_map.mp (List.mem_filter.mp hk).1
  exact List.mem_map.mpr ⟨q, hq, rfl⟩
theorem wkC_sub {t : Int} {h : Nat} {c : Ch} {j : Int} (hj : j ∈ wkC t h c) : j ∈ c.map (·.1.n) := by
  obtain ⟨d, hd, rfl⟩ := List.mem_map.mp (List.mem_of_mem_take hj)
  obtain ⟨k, hk, rfl⟩ := List.mem_map.mp ((ord_perm _ _).mem_iff.mp hd)
  exact List.mem_map.mpr ⟨k, (List.mem_filter.mp hk).1, rfl⟩
theorem run_sub {h : Nat} {b : Int} {c : Ch} : ∀ n, (∀ j, j ∈ (runN h n b c).2.map (·.1.n) → j ∈ c.map (·.1.n)) ∧ ∀ r, r ∈ (runN h n b c).1 → ∀ j, j ∈ r.2 → j ∈ c.map (·.1.n)
  | 0 => ⟨fun _ h => h, fun r hr => by cases hr⟩
  | n + 1 => by
    obtain ⟨h1, h2⟩ := run_sub (h := h) (b := b) (c := c) n
    rw [rwN_succ]
    refine ⟨fun j hj => h1 j (bhC_sub hj), fun r hr j hj => ?_⟩
    rcases List.mem_append.mp hr with hr | hr
    · exact h2 r hr j hj
    · rw [List.mem_singleton.mp hr] at hj
      exact h1 j (wkC_sub hj)
end L2

set_option Elab.async false
set_option linter.all false
set_option maxRecDepth 100000
set_option maxHeartbeats 4000000
namespace L2
open PySem PySem.Spec PyProof.Rows
/-! ## dict(d), and == of dicts of whole numbers -/
theorem val_mem {k : Key} {v : Value} : ∀ {vs : List (Key × Value)}, (vs.map (·.1)).Nodup → (k, v) ∈ vs → valueAt vs k = some v
  | [], _, h => by cases h
  | p :: vs, nd, h => by
    unfold valueAt
    rcases List.mem_cons.mp h with e | h
    · subst e
      rw [List.find?_cons_of_pos (by simp)]
      rfl
    · rw [List.map_cons, List.nodup_cons] at nd
      have ne : ¬ p.1 = k := fun z => nd.1 (by rw [z]; exact List.mem_map.mpr ⟨_, h, rfl⟩)
      rw [List.find?_cons_of_neg (by simpa using ne)]
      exact val_mem nd.2 h
theorem hits_of {A : Around} {s : Shared} {kb : List (Key × Value)} : ∀ {l : List (Key × Value)}, (∀ kv, kv ∈ l → ∃ y, valueAt kb kv.1 = some y ∧ SeqAt.EqAt A s kv.2 y true) → PySem.W.KeqHits A s kb l true
  | [], _ => .nil
  | (k, v) :: l, h => by
    obtain ⟨y, e, q⟩ := h (k, v) List.mem_cons_self
    exact .hit (e := true) (b := true) e q (hits_of fun kv hkv => h kv (List.mem_cons_of_mem _ hkv))
section
variable {X : Cx} {pins : List (Addr × Obj)} {σ : St} {H : Hp} {s : Shared}
end
section
variable {X : Cx}
end
end L2

set_option Elab.async false
set_option linter.all false
set_option maxRecDepth 100000
set_option maxHeartbeats 4000000
namespace L2
open PySem PySem.Spec PyProof.Rows
/-! ## histories with less work and more hands: nobody is later -/
structure GdC (c : Ch) : Prop where
  ok : ∀ k, k ∈ c → k.1.Ok
  nd : (c.map (·.1.n)).Nodup
theorem bhC_in {ws : List Int} {c : Ch} {j : Cl × Int} (hj : j ∈ c) (h : 0 < lessN ws j) : (j.1, lessN ws j) ∈ bhC ws c :=
  List.mem_filter.mpr ⟨List.mem_map.mpr ⟨j, hj, rfl⟩, decide_eq_true h⟩
theorem GdC.cl {c : Ch} (g : GdC c) {k j : Cl × Int} (hk : k ∈ c) (hj : j ∈ c) (e : k.1.n = j.1.n) : k = j := by
  have : ∀ {l : Ch}, (l.map (·.1.n)).Nodup → ∀ {k j : Cl × Int}, k ∈ l → j ∈ l → k.1.n = j.1.n → k = j := by
    intro l
    induction l with
    | nil =>
      intro _ k j hk
      cases hk
    | cons x l ih =>
      intro nd k j hk hj e
      rw [List.map_cons, List.nodup_cons] at nd
      rcases List.mem_cons.mp hk with ek | hk'
      · rcases List.mem_cons.mp hj with ej | hj'
        · rw [ek, ej]
        · exact (nd.1 (List.mem_map.mpr ⟨j, hj', by rw [← ek]; exact e.symm⟩)).elim
      · rcases List.mem_cons.mp hj with ej | hj'
        · exact (nd.1 (List.mem_map.mpr ⟨k, hk', by rw [← ej]; exact e⟩)).elim
        · exact ih nd.2 hk' hj' e
  exact this g.nd hk hj e
inductive Hist (h : Nat) (b : Int) (c0 : Ch) : Nat → List (Int × List Int) → Ch → Prop
  | zero : Hist h b c0 0 [] c0
  | succ {n : Nat} {rs : List (Int × List Int)} {c : Ch} {h' : Nat} : Hist h b c0 n rs c → h ≤ h' → Hist h b c0 (n + 1) (rs ++ [(b + n, wkC (b + n) h' c)]) (bhC (wkC (b + n) h' c) c)
theorem run_works {h : Nat} {b : Int} {d : Ch} {j : Int} : ∀ (q m : Nat), j ∈ (runN h m b d).2.map (·.1.n) → (∀ k, k ∈ (runN h m b d).2 → 0 < k.2) → (runN h (m + q) b d).2 = [] → ∃ i, m ≤ i ∧ i < m + q ∧ j ∈ wkC (b + i) h (runN h i b d).2
  | 0, m, hj, _, e => by
    rw [Nat.add_zero] at e
    rw [e] at hj
    cases hj
  | q + 1, m, hj, pos, e => by
    by_cases w : j ∈ wkC (b + m) h (runN h m b d).2
    · exact ⟨m, Nat.le_refl _, by omega, w⟩
    · obtain ⟨k, hk, ek⟩ := List.mem_map.mp hj
      have hj' : j ∈ (runN h (m + 1) b d).2.map (·.1.n) := by
        rw [rwN_succ]
        have lk : lessN (wkC (b + m) h (runN h m b d).2) k = k.2 := if_neg (by rw [ek]; exact w)
        exact List.mem_map.mpr ⟨_, bhC_in hk (by rw [lk]; exact pos k hk), ek⟩
      have pos' : ∀ k, k ∈ (runN h (m + 1) b d).2 → 0 < k.2 := by
        rw [rwN_succ]
        exact fun k hk => bhC_pos hk
      obtain ⟨i, a1, a2, a3⟩ := run_works q (m + 1) hj' pos' (by rw [show m + 1 + q = m + (q + 1) by omega]; exact e)
      exact ⟨i, by omega, by omega, a3⟩
theorem run_rows {h : Nat} {b : Int} {d : Ch} {i : Nat} : ∀ {n : Nat}, i < n → (b + i, wkC (b + i) h (runN h i b d).2) ∈ (runN h n b d).1
  | n + 1, hi => by
    rw [rwN_succ]
    by_cases e : i = n
    · subst e
      exact List.mem_append.mpr (.inr (List.mem_singleton.mpr rfl))
    · exact List.mem_append.mpr (.inl (run_rows (by omega)))
theorem run_up {h : Nat} {b : Int} {d : Ch} : ∀ n, (runN h n b d).1.Pairwise (fun r q => r.1 < q.1) ∧ ∀ r, r ∈ (runN h n b d).1 → r.1 < b + n
  | 0 => ⟨.nil, fun r hr => by cases hr⟩
  | n + 1 => by
    obtain ⟨p, u⟩ := run_up (h := h) (b := b) (d := d) n
    rw [rwN_succ]
    refine ⟨List.pairwise_append.mpr ⟨p, List.pairwise_singleton _ _, fun r hr q hq => ?_⟩, fun r hr => ?_⟩
    · rw [List.mem_singleton.mp hq]
      exact u r hr
    · rcases List.mem_append.mp hr with hr | hr
      · have := u r hr
        omega
      · rw [List.mem_singleton.mp hr]
        show b + (n : Int) < b + ((n + 1 : Nat) : Int)
        omega
/-! last turns -/
theorem valI_put {L : List (Int × Int)} {k v j : Int} : valI (putI L k v) j = if j = k then some v else valI L j := by
  have h := valV_put (dI L) (.inl k) (.inl j) (V.int v)
  rw [dI_put, dI_val, dI_val] at h
  by_cases e : j = k
  · rw [if_pos (by rw [e])] at h
    rw [if_pos e]
    cases z : valI (putI L k v) j with
    | none => rw [z] at h; cases h
    | some u => rw [z] at h; cases h; rfl
  · rw [if_neg (fun z => e (Sum.inl.inj z))] at h
    rw [if_neg e]
    cases z : valI (putI L k v) j with
    | none =>
      rw [z] at h
      cases y : valI L j with
      | none => rfl
      | some u => rw [y] at h; cases h
    | some w =>
      rw [z] at h
      cases y : valI L j with
      | none => rw [y] at h; cases h
      | some u => rw [y] at h; cases h; rfl
theorem lastR_val {t j : Int} : ∀ {ns : List Int} {L : List (Int × Int)}, valI (lastR t ns L) j = if j ∈ ns then some t else valI L j
  | [], L => by simp [lastR]
  | n :: ns, L => by
    show valI (lastR t ns (putI L n t)) j = _
    rw [lastR_val (ns := ns), valI_put]
    by_cases a : j ∈ ns
    · rw [if_pos a, if_pos (List.mem_cons_of_mem _ a)]
    · rw [if_neg a]
      by_cases e : j = n
      · rw [if_pos e, if_pos (by rw [e]; exact List.mem_cons_self)]
      · rw [if_neg e, if_neg (fun z => (List.mem_cons.mp z).elim e a)]
theorem lastI_ge {j : Int} : ∀ {rs : List (Int × List Int)} {L : List (Int × Int)} {v : Int}, rs.Pairwise (fun r q => r.1 < q.1) → (valI L j = some v ∧ (∀ r, r ∈ rs → v ≤ r.1)) ∨ (∃ r, r ∈ rs ∧ r.1 = v ∧ j ∈ r.2) → ∃ u, valI (lastI rs L) j = some u ∧ v ≤ u
  | [], L, v, _, h => by
    rcases h with ⟨h, _⟩ | ⟨r, hr, _⟩
    · exact ⟨v, h, Int.le_refl _⟩
    · cases hr
  | r :: rs, L, v, p, h => by
    rw [List.pairwise_cons] at p
    show ∃ u, valI (lastI rs (lastR r.1 r.2 L)) j = some u ∧ v ≤ u
    rcases h with ⟨h, le⟩ | ⟨q, hq, e, hj⟩
    · have lr := le r List.mem_cons_self
      by_cases a : j ∈ r.2
      · obtain ⟨u, h1, h2⟩ := lastI_ge (rs := rs) (L := lastR r.1 r.2 L) (v := r.1) p.2 (.inl ⟨by rw [lastR_val, if_pos a], fun q hq => Int.le_of_lt (p.1 q hq)⟩)
        exact ⟨u, h1, by omega⟩
      · exact lastI_ge p.2 (.inl ⟨by rw [lastR_val, if_neg a]; exact h, fun q hq => le q (List.mem_cons_of_mem _ hq)⟩)
    · rcases List.mem_cons.mp hq with z | hq
      · subst z
        refine lastI_ge p.2 (.inl ⟨by rw [lastR_val, if_pos hj, e], fun q hq => ?_⟩)
        rw [← e]
        exact Int.le_of_lt (p.1 q hq)
      · exact lastI_ge p.2 (.inr ⟨q, hq, e, hj⟩)
section
variable {X : Cx} {pins : List (Addr × Obj)} {σ : St} {H : Hp} {s : Shared}
theorem dict_hits {P : Program} {w : World} {L : List (Int × Int)} {A : Around} {c d : Addr} {vs1 vs2 : List (Key × Value)} (r1 : KV (dI L) vs1) (r2 : KV (dI L) vs2) (nd1 : (vs1.map (·.1)).Nodup) : PySem.W.KeqHits A s vs2 vs1 true := by
  have ik : ∀ kv, kv ∈ vs1 → ∃ i, kv.1 = .inl i := fun kv hkv => by
    have : kv.1 ∈ vs1.map (·.1) := List.mem_map.mpr ⟨kv, hkv, rfl⟩
    rw [← r1.keys] at this
    unfold dI at this
    rw [List.map_map] at this
    obtain ⟨p, _, e⟩ := List.mem_map.mp this
    exact ⟨p.1, e.symm⟩
  refine hits_of fun kv hkv => ?_
  obtain ⟨i, ei⟩ := ik kv hkv
  have v1 := val_mem nd1 (show (kv.1, kv.2) ∈ vs1 from hkv)
  have a1 := r1.val kv.1
  have a2 := r2.val kv.1
  rw [v1] at a1
  rw [ei] at a1 a2 ⊢
  rw [dI_val] at a1 a2
  cases ev : valI L i with
  | none => rw [ev] at a1; cases a1
  | some j =>
    rw [ev] at a1 a2
    obtain ⟨y, hy, ry⟩ := RelO.some_of (v := .int j) a2
    obtain ⟨y', hy', ry'⟩ := RelO.some_of (v := .int j) a1
    cases hy'
    exact ⟨y, hy, base_at ry' ry (.inl rfl)⟩
theorem op_neI (hu : X.A.units + 1 < cLine) : OpR X (compareOp .NotEq) (fun x y H Q => ∃ c d L, x = .ref c ∧ y = .ref d ∧ Rd H c (.dK (dI L)) ∧ Rd H d (.dK (dI L)) ∧ Q (.bl false) H) := by
  intro pins s σ H x y v u Q I rx ry h
  obtain ⟨c, d, L, rfl, rfl, hc, hd, q⟩ := h
  cases rx
  cases ry
  obtain ⟨z1, y1, vs1, r1, d1⟩ := dk_rd I.hok hc
  obtain ⟨z2, y2, vs2, r2, d2⟩ := dk_rd I.hok hd
  obtain ⟨_, _, _, _, _, _, _, _, nd1⟩ := id d1
  have len : vs1.length = vs2.length := by rw [← r1.length, ← r2.length]
  refine PySem.W.keq_ne (knd := mixKind X.prog X.w) y1 y2 d1 d2 (by omega) (fun _ => dict_hits (P := X.prog) (w := X.w) (c := c) (d := d) r1 r2 nd1) (r := true) ⟨.bl _, H, I, rfl, ?_⟩
  rw [len, beq_self_eq_true, Bool.true_and]
  exact q
end
end L2

set_option Elab.async false
set_option linter.all false
set_option maxRecDepth 100000
set_option maxHeartbeats 4000000
namespace L2
open PySem PySem.Spec PyProof.Rows
/-! ## repr, list(d), d.clear(), d.values(), and a dict that is thawed again -/
theorem bt_repr : bootBuiltins "repr" = some (.builtin "repr") := by decide +kernel
theorem paired_at {α β : Type} {F : α → β → Prop} : ∀ {l₁ : List α} {l₂ : List β}, l₁.length = l₂.length → (∀ (j : Nat) a b, l₁[j]? = some a → l₂[j]? = some b → F a b) → Paired F l₁ l₂
  | [], [], _, _ => .nil
  | a :: l₁, b :: l₂, h, f => .cons (f 0 a b rfl rfl) (paired_at (by simpa using h) fun j x y hx hy => f (j + 1) x y hx hy)
theorem paired_get {α β : Type} {F : α → β → Prop} : ∀ {l₁ : List α} {l₂ : List β}, Paired F l₁ l₂ → ∀ {j : Nat} {a : α} {b : β}, l₁[j]? = some a → l₂[j]? = some b → F a b
  | _, _, .nil, j, a, b, h, _ => by simp at h
  | _, _, .cons x r, 0, a, b, h1, h2 => by
    cases h1
    cases h2
    exact x
  | _, _, .cons x r, j + 1, a, b, h1, h2 => paired_get r (j := j) h1 h2
theorem Room.units4 {k : Nat} {A : Around} (r : Room k A) : A.units + 4 < cLine := by have := r.un; omega
inductive Shw (K : PySem.W.Frag) (H : Hp) : V → Str → Prop
  | non : Shw K H .non "None"
  | bl (b : Bool) : Shw K H (.bl b) (if b then "True" else "False")
  | int (i : Int) (h : i.natAbs.log2 < 1920) : Shw K H (.int i) (toString i)
  | str (x : Str) (h : (reprText x).length ≤ sizeLine) : Shw K H (.str x) (reprText x)
  | lst {a : Addr} (i : Int) (h : SqL K H a [.int i]) (hs : (PyData.list [.int i]).showable = true) (hz : (PyData.list [.int i]).shown.length ≤ sizeLine) : Shw K H (.ref a) (PyData.list [.int i]).shown
  | tup {a : Addr} (i : Int) (h : SqT K H a [.int i]) (hs : (PyData.tuple [.int i]).showable = true) (hz : (PyData.tuple [.int i]).shown.length ≤ sizeLine) : Shw K H (.ref a) (PyData.tuple [.int i]).shown
section
variable {X : Cx}
theorem call_repr (hg : X.A.guards = some []) (hu : X.A.units + 4 < cLine) : CallR X (.builtin "repr") (fun xs H Q => ∃ v x, xs = [v] ∧ Shw X.K H v x ∧ Q (.str x) H) := by
  intro pins s σ H xs us Q I r h
  obtain ⟨v, x, rfl, sh, q⟩ := h
  obtain ⟨u, rfl, ru⟩ := vals1 r
  cases sh with
  | non =>
    cases (show u = Value.none from ru)
    exact P.repr_of_none ⟨.str _, H, I.kept (t' := s.toks + 1) fun _ _ e => e, ⟨_, rfl⟩, q⟩
  | bl b =>
    cases (show u = Value.bool b from ru)
    exact P.repr_of_bool ⟨.str _, H, I.kept (t' := s.toks + 1) fun _ _ e => e, ⟨_, rfl⟩, q⟩
  | int i hi =>
    obtain ⟨t, rfl⟩ := ru
    exact P.repr_of_int hi ⟨.str _, H, I.kept (t' := s.toks + 1) fun _ _ e => e, ⟨_, rfl⟩, q⟩
  | str y hy =>
    obtain ⟨t, rfl⟩ := ru
    exact P.repr_of_str ⟨.str _, H, I.kept (t' := s.toks + 1) fun _ _ e => e, ⟨_, rfl⟩, q⟩ hy
  | @lst a i hq hs hz =>
    cases (show u = Value.ref a from ru)
    obtain ⟨its, rv, p, _⟩ := I.list hq
    obtain ⟨w, rfl, t, rfl⟩ := vals1 rv
    obtain ⟨o, h1, h2, n, h3⟩ := p.isList
    exact repr_of_reads' (Reads.list h1 h2 h3 (ReadsAll.cons (Reads.int i t) ReadsAll.nil)) hs (fun z => by simp [PyData.hasDict, PyData.hasDictAll] at z) hg (by simp [PyData.depth, PyData.depthAll]; omega) (fun _ _ e => e)
      (fun h' u tk hk => ⟨.str _, H, I.kept (t' := tk) hk, ⟨_, rfl⟩, q⟩) hz
  | @tup a i hq hs hz =>
    cases (show u = Value.ref a from ru)
    obtain ⟨its, rv, p, _⟩ := I.tuple hq
    obtain ⟨w, rfl, t, rfl⟩ := vals1 rv
    obtain ⟨o, h1, h2, n, h3⟩ := p
    exact repr_of_reads' (Reads.tuple h1 h2 h3 (ReadsAll.cons (Reads.int i t) ReadsAll.nil)) hs (fun z => by simp [PyData.hasDict, PyData.hasDictAll] at z) hg (by simp [PyData.depth, PyData.depthAll]; omega) (fun _ _ e => e)
      (fun h' u tk hk => ⟨.str _, H, I.kept (t' := tk) hk, ⟨_, rfl⟩, q⟩) hz
def rReprK (K : PySem.W.Frag) : List V → Hp → VK → Prop := fun xs H Q => ∃ v x, xs = [v] ∧ Shw K H v x ∧ Q (.str x) H
theorem call_reprK {K : PySem.W.Frag} (hg : X.A.guards = some []) (hu : X.A.units + 4 < cLine) (hK : X.K = K) : CallR X (.builtin "repr") (rReprK K) := hK ▸ call_repr hg hu
theorem call_listD (hh : X.A.handled = none) : CallR X (.type "list") (fun xs H Q => ∃ a kvs, xs = [V.ref a] ∧ Rd H a (.dK kvs) ∧ ∀ l H2, Same H H2 → H l = none → H2 l = some (.lst (kvs.map fun kv => kV kv.1)) → Q (.ref l) H2) := by
  intro pins s σ H xs us Q I r h
  obtain ⟨a, kvs, rfl, hd, q⟩ := h
  obtain ⟨u, rfl, ru⟩ := vals1 r
  cases (show u = Value.ref a from ru)
  obtain ⟨z, y, vs, rel, o, es, ep, ho, oc, od, rr⟩ := dk_rd I.hok hd
  have lv := rel.length
  refine PySem.W.kdl_call (PySem.W.kdl_dict (knd := mixKind X.prog X.w) (kvs := vs) (ep := ep) y) hh (show s.heap.DictAt (mixKind X.prog X.w) a vs ep from ⟨o, es, ho, oc, od, rr⟩) (by omega) fun h' tk acc' c' hk hS hacc => ?_
  have hn : H s.heap.objs.size = none := I.hok.fresh (Nat.le_refl _)
  have len : acc'.toList.length = kvs.length := by rw [Array.length_toList, hacc.1]; exact lv.symm
  have rl : Vals (kvs.map fun kv => kV kv.1) acc'.toList := by
    refine paired_at (by rw [List.length_map, len]) fun j x v hx hv => ?_
    obtain ⟨k, w, hk1, hk2⟩ := hacc.2 j v (by rw [← Array.getElem?_toList]; exact hv)
    rw [List.getElem?_map] at hx
    cases e : kvs[j]? with
    | none => rw [e] at hx; cases hx
    | some kv =>
      rw [e] at hx
      cases hx
      have ek : kv.1 = k := by
        have := congrArg (·[j]?) rel.keys
        simp only [List.getElem?_map, hk1, e, Option.map_some] at this
        exact Option.some.inj this
      show RelV (kV kv.1) v
      rw [ek]
      exact key_rel hk2
  refine ⟨.ref _, upd H s.heap.objs.size (.lst (kvs.map fun kv => kV kv.1)), I.laid (t' := tk) (h' := h') hk (Nat.le_refl _) ⟨by rw [List.length_map]; exact z, acc'.toList, c', rl, ?_⟩, rfl, q _ _ (same_new hn _) hn upd_same⟩
  rw [hS]
theorem mt_dclear : MtR X "dict.clear" (fun x vs H Q => ∃ a kvs, x = .ref a ∧ vs = [] ∧ H a = some (.dK kvs) ∧ ∀ H2, But a H H2 → H2 a = some (.dK []) → Q .non H2) := by
  intro pins s σ H x vs v us Q I rx rv h
  obtain ⟨a, kvs, rfl, rfl, hd, q⟩ := h
  cases rx
  have hus := rv.zero
  subst hus
  exact d_clear I hd fun s' I' => ⟨.non, _, I', rfl, q _ (But.upd a H _) upd_same⟩
theorem mt_dvals : MtR X "dict.values" (fun x vs H Q => ∃ a kvs, x = .ref a ∧ vs = [] ∧ H a = some (.dK kvs) ∧ ∀ v H2, Same H H2 → H v = none → H2 v = some (.ext fun h => h.IsValuesView v a) → Q (.ref v) H2) := by
  intro pins s σ H x vs v us Q I rx rv h
  obtain ⟨a, kvs, rfl, rfl, hd, q⟩ := h
  cases rx
  have hus := rv.zero
  subst hus
  obtain ⟨z, y, ws, rel, dd⟩ := dk_of I.hok hd
  have hn : H s.heap.objs.size = none := I.hok.fresh (Nat.le_refl _)
  refine call_meetsIn PySem.F.slot_dict_values dd.typeIs PySem.F.entry_dict_values (PySem.F.args_dict_values_1 _) (meets_dict_values (mixKind X.prog X.w) a y) ⟨⟨ws, dd⟩, ?_⟩
  refine ⟨.ref _, _, I.laid (t' := s.toks) (a := s.heap.objs.size) (o := .ext fun h => h.IsValuesView s.heap.objs.size a) (fun b u e => Heap.get?_push_of_some _ e) (Nat.le_refl _) ⟨⟨_, Heap.get?_push_size _ rfl, rfl, rfl⟩, ⟨_, Heap.get?_push_size _ rfl⟩, fun h1 h2 ⟨o, e, r⟩ k => ⟨o, k o e, r⟩⟩, rfl, q _ _ (same_new hn _) hn upd_same⟩
end
def Itv (a : Addr) (o : Obj) (kvs : List (Key × V)) : It :=
  ⟨fun i H => H a = some (.frz o (.dK kvs)) ∧ i < kvs.length, fun i H x H' => H' = H ∧ ∃ kv, kvs[i]? = some kv ∧ x = kv.2, fun i H => H a = some (.frz o (.dK kvs)) ∧ kvs.length ≤ i⟩
theorem turn_vals {P : Program} {w : World} {K : PySem.W.Frag} {tg : Expr} (a it : Addr) (o : Obj) (kvs : List (Key × V)) {es : Array DictEntry} {ep : Nat} (d : o.data = .dict es ep) :
    Turn P w K tg (Itv a o kvs) [it] it (fun i h => h.IsValIter it a i kvs.length ep) where
  mem := by simp
  obj := fun i h st b hb => by
    have e : b = it := by simpa using hb
    subst e
    obtain ⟨o, e, c, d⟩ := st
    exact ⟨o, e, fun v z => by rw [d] at z; cases z⟩
  keep := fun i h h' st k => let ⟨o, e, r⟩ := st; ⟨o, k it (by simp) o e, r⟩
  item := by
    intro X hP hw hK hc i pins s σ H E I hf st hg
    subst hP hw hK
    obtain ⟨hq, hi⟩ := hg
    obtain ⟨vs, rel, dd⟩ := frz_at I.hok hq d
    obtain ⟨f0, f1, f2, f3, f4, f5⟩ := hf it (by simp)
    have lv := rel.length
    obtain ⟨⟨k, x⟩, hx⟩ : ∃ p, vs[i]? = some p := ⟨vs[i]'(by omega), List.getElem?_eq_getElem (by omega)⟩
    obtain ⟨⟨k', x'⟩, hx'⟩ : ∃ p, kvs[i]? = some p := ⟨kvs[i]'hi, List.getElem?_eq_getElem hi⟩
    have rx : RelV x' x := (paired_get rel hx' hx).2
    rw [lv] at st
    refine wpAny_pyNext_values_item st dd hx fun h' st' sb => ?_
    have I1 : Inv X pins σ H { s with heap := h' } := I.turned (t' := s.toks) (fun b o hb e => (sb.2 b hb).trans e) f0 f1 f3 f4 f5
    obtain ⟨o', e, c, d'⟩ := id st'
    rw [← lv] at st'
    exact ⟨x, rfl, go_of (s := { s with heap := h' }) e c d' (by decide) ⟨x', H, I1, rx, ⟨rfl, _, hx', rfl⟩, st', fun b hb => (hf b hb).1⟩⟩
  done := by
    intro X hP hw hK hc i pins s σ H E I hf st hg
    subst hP hw hK
    obtain ⟨hq, hi⟩ := hg
    obtain ⟨vs, rel, dd⟩ := frz_at I.hok hq d
    obtain ⟨f0, f1, f2, f3, f4, f5⟩ := hf it (by simp)
    have lv := rel.length
    rw [lv] at st
    exact wpAny_pyNext_values_end (I.ok.hd hc) st dd (List.getElem?_eq_none (by omega)) fun h' eb => ⟨rfl, I.turned (t' := s.toks) (fun b o hb e => eb b o hb e) f0 f1 f3 f4 f5⟩
  self := fun _ _ _ _ _ st h => wpAny_pyIter_valiter st h
section
variable {X : Cx} {tg : Expr}
def iVals (tl : TE) : TI := fun σ H R => tl σ H fun x H1 => ∃ v a kvs, x = .ref v ∧ H1 v = some (.ext fun h => h.IsValuesView v a) ∧ H1 a = some (.dK kvs) ∧ ∀ o H2, But a H1 H2 → H2 a = some (.frz o (.dK kvs)) → R (Itv a o kvs) H2
theorem pi_vals {l : Expr} {tl : TE} (hl : PE X l tl) : PI X tg l (iVals tl) := by
  with_unfolding_all
    intro pins s σ H R I h
    refine thn (hl pins s σ H _ I h) fun v s1 ⟨x, H1, I1, r1, q1⟩ => ?_
    obtain ⟨vw, a, kvs, e, hv, hq, q⟩ := q1
    subst e
    cases r1
    obtain ⟨z, y, vs, rel, o, es, ep, ho, oc, od, r⟩ := dk_of I1.hok hq
    have lv := rel.length
    obtain ⟨wv, _, _⟩ := (show s1.heap.IsValuesView vw a ∧ _ from I1.hok vw _ hv)
    refine wpAny_pyIter_values wv (show s1.heap.DictAt (mixKind X.prog X.w) a vs ep from ⟨o, es, ho, oc, od, r⟩) ?_
    have I2 : Inv X pins σ (upd H1 a (.frz o (.dK kvs))) s1 := I1.write (x := a) (e := a) (o := .frz o (.dK kvs)) (h' := s1.heap) (t' := s1.toks) (by rw [hq]; trivial) (.inl rfl) (fun _ _ _ q => q) ⟨o, ho⟩ ⟨ho, z, y, vs, rel, o, es, ep, ho, oc, od, r⟩
    refine ⟨s1.heap.objs.size, [s1.heap.objs.size], _, _, _, rfl, I2.kept (t' := s1.toks) fun b o e => Heap.get?_push_of_some _ e, turn_vals a _ o kvs od, ?_, fun b hb => ?_, q o _ (But.upd _ _ _) upd_same⟩
    · show Heap.IsValIter _ _ _ _ _ _
      rw [lv]
      exact ⟨_, Heap.get?_push_size _ rfl, rfl, rfl⟩
    · have e : b = s1.heap.objs.size := by simpa using hb
      subst e
      exact I2.fpOk (Nat.le_refl _) (I2.hok.fresh (Nat.le_refl _))
end
theorem comp_vals {a : Addr} {ob : Obj} {kvs : List (Key × V)} {js : List Nat} {tc : TT} {te : TE} {σ : St} {H1 : Hp} {Q : VK} (p : Nat → Bool) (f : Nat → V) (hl : H1 a = some (.frz ob (.dK kvs)))
    (ht : ∀ i kv Hh (Q' : Bool → Hp → Prop), kvs[i]? = some kv → Same H1 Hh → (∀ Hh', Same Hh Hh' → Q' (p i) Hh') → tc (some kv.2 :: caps σ js) Hh Q')
    (he : ∀ i kv Hh (Q' : VK), kvs[i]? = some kv → p i = true → Same H1 Hh → (∀ Hh', Same Hh Hh' → Q' (f i) Hh') → te (some kv.2 :: caps σ js) Hh Q')
    (hz : kvs.length < sizeLine) (q : ∀ D H2, Same H1 H2 → H1 D = none → H2 D = some (.lst (((List.range kvs.length).filter p).map f)) → Q (.ref D) H2) :
    CompGo (Itv a ob kvs) js tc te σ H1 Q := by
  intro D H2 s2 hD h2
  refine ⟨fun i m acc H3 => m = kvs.length - i ∧ i ≤ kvs.length ∧ acc = ((List.range i).filter p).map f ∧ Same H1 H3 ∧ H3 D = some (.lst acc), ⟨_, rfl, Nat.zero_le _, by simp, s2, h2⟩, ?_⟩
  rintro i m acc H3 ⟨rfl, hi, ea, s3, h3⟩
  have hl3 := s3 _ _ hl
  have hll : acc.length ≤ kvs.length := by
    rw [ea, List.length_map]
    refine Nat.le_trans (List.length_filter_le _ _) ?_
    rw [List.length_range]
    exact hi
  refine ⟨h3, by omega, ?_⟩
  by_cases hlt : i < kvs.length
  · refine .inr ⟨⟨hl3, hlt⟩, fun y H4 z => ?_⟩
    obtain ⟨e, kv, ey2, rfl⟩ := z
    subst e
    refine ht i kv _ _ ey2 s3 fun H5 s5 => ?_
    have h5 := s5 _ _ h3
    have s35 := s3.trans s5
    have tk : (List.range (i + 1)).filter p = (List.range i).filter p ++ (if p i = true then [i] else []) := by
      rw [List.range_succ, List.filter_append]
      congr 1
      cases h : p i <;> simp [h]
    cases hp : p i with
    | true =>
      refine iteT (he i kv _ _ ey2 hp s35 fun H6 s6 => ⟨s6 _ _ h5, fun H7 k7 h7 => ⟨kvs.length - (i + 1), by omega, rfl, hlt, ?_, fun b o e => ?_, h7⟩⟩)
      · rw [tk, hp, if_pos rfl, List.map_append, ← ea]
        rfl
      · by_cases hb : b = D
        · subst hb
          rw [hD] at e
          cases e
        · exact k7 b o hb (s6 b o (s35 b o e))
    | false =>
      refine iteF ⟨kvs.length - (i + 1), by omega, rfl, hlt, ?_, s35, h5⟩
      rw [tk, hp, if_neg Bool.false_ne_true, List.append_nil]
      exact ea
  · have e : i = kvs.length := by omega
    subst e
    refine .inl ⟨⟨hl3, Nat.le_refl _⟩, ?_⟩
    rw [ea] at h3
    exact q D _ s3 hD h3
/-! thawed -/
theorem thaw_ok {P : Program} {w : World} {H : Hp} {h : Heap} {a b : Addr} {oa : Obj} {kvs : List (Key × V)} (e : H a = some (.frz oa (.dK kvs))) {o : HO} (x : ObjOk P w H h b o) : ObjOk P w (upd H a (.dK kvs)) h b o := by
  induction o with
  | dT ks =>
    obtain ⟨z, y, xs, r, c⟩ := x
    exact ⟨z, y, xs, Paired.mapP r fun p q z => ⟨z.1, by rw [upd_ne (fun t => by have := z.2.1; rw [t, e] at this; cases this)]; exact z.2.1, z.2.2⟩, c⟩
  | ins C dx fs =>
    obtain ⟨d, c⟩ := x
    exact ⟨by rw [upd_ne (fun t => by rw [t, e] at d; cases d)]; exact d, c⟩
  | frz ob u ih => exact ⟨x.1, ih x.2⟩
  | tbl lp lq =>
    obtain ⟨vs, e', tr, r⟩ := x
    exact ⟨vs, e', tr, r.imp id fun ⟨c, oc, us, t, e1, e2, e3⟩ => ⟨c, oc, us, t, e1, by rw [upd_ne (fun t => by rw [t, e] at e2; cases e2)]; exact e2, e3⟩⟩
  | _ => exact x
theorem Inv.thaw {X : Cx} {pins : List (Addr × Obj)} {σ : St} {H : Hp} {s : Shared} {a : Addr} {oa : Obj} {kvs : List (Key × V)} (I : Inv X pins σ H s) (e : H a = some (.frz oa (.dK kvs))) (h0 : X.H₀ a = none) : Inv X pins σ (upd H a (.dK kvs)) s := by
  have ne : ∀ {b}, H b = none → b ≠ a := fun n z => by rw [z, e] at n; cases n
  refine ⟨I.ok, I.os, I.bare, ⟨I.base.keep, I.base.slot, fun b o h1 h2 h3 => ?_, I.base.there, fun b xs h => ?_, fun b o u h => ?_, fun b lp lq h => ?_⟩, I.loc, I.cell, ?_, fun x c h => ?_, fun p hp => ?_, fun b u h => ?_, I.len⟩
  · have := I.base.free b o h1 h2 h3
    rw [upd_ne (ne this)]
    exact this
  · have := I.base.tups b xs h
    rw [upd_ne (fun z => by rw [z, e] at this; cases this)]
    exact this
  · rw [upd_ne (fun z => by rw [z, h0] at h; cases h)]
    exact I.base.frzs b o u h
  · have := I.base.tbls b lp lq h
    rw [upd_ne (fun z => by rw [z, e] at this; cases this)]
    exact this
  · rw [upd_ne (ne I.free)]
    exact I.free
  · have := I.freeC x c h
    rw [upd_ne (ne this)]
    exact this
  · obtain ⟨h1, h2, h3⟩ := I.pin p hp
    exact ⟨h1, by rw [upd_ne (ne h2)]; exact h2, h3⟩
  · by_cases z : b = a
    · subst z
      rw [upd_same] at h
      cases h
      exact thaw_ok e (I.hok b _ e).2
    · rw [upd_ne z] at h
      exact thaw_ok e (I.hok b u h)
def tThaw (H0 : Hp) (t u : TS) : TS := fun D σ H => ∃ (M : St → Hp → Prop), t { D with nx := M } σ H ∧ ∀ σ' H', M σ' H' → ∃ a oa kvs, H' a = some (.frz oa (.dK kvs)) ∧ H0 a = none ∧ ∀ H2, But a H' H2 → H2 a = some (.dK kvs) → u D σ' H2
section
variable {X : Cx}
theorem pss_thaw {st : Stmt} {rest : List Stmt} {t u : TS} (h1 : PS X st t) (h2 : PSs X rest u) : PSs X (st :: rest) (tThaw X.H₀ t u) := by
  with_unfolding_all
    intro pins s σ H D I h
    obtain ⟨M, h, hm⟩ := h
    refine wpAny_execs_cons (thn (h1 pins s σ H { D with nx := M } I h) fun f s1 q => ?_)
    cases f with
    | next =>
      obtain ⟨σ', H', I', q⟩ := q
      obtain ⟨a, oa, kvs, e, h0, q⟩ := hm σ' H' q
      exact h2 pins s1 σ' _ D (I'.thaw e h0) (q _ (But.upd _ _ _) upd_same)
    | ret v => exact q
    | brk => exact q
    | cont => exact q
end
theorem IsRun.cut {H : Hp} {l D : Addr} {rs : List (Addr × Addr × Int × List Int)} {p : Addr × Addr × Int × List Int → Bool} (R : IsRun H l rs) (h : H D = some (.lst ((rs.filter p).map fun r => V.ref r.1))) : IsRun H D (rs.filter p) := ⟨h, fun r hr => R.row r (List.mem_filter.mp hr).1, fun r hr => R.num r (List.mem_filter.mp hr).1⟩
theorem Shw.same {K : PySem.W.Frag} {H H' : Hp} {v : V} {x : Str} (s : Same H H') (h : Shw K H v x) : Shw K H' v x := by
  cases h with
  | non => exact .non
  | bl b => exact .bl b
  | int i hi => exact .int i hi
  | str y hy => exact .str y hy
  | lst i h1 h2 h3 => exact .lst i (s.seq h1) h2 h3
  | tup i h1 h2 h3 => exact .tup i (h1.imp (Rd.same s) id) h2 h3
end L2

set_option Elab.async false
set_option linter.all false
set_option maxRecDepth 100000
set_option maxHeartbeats 4000000
namespace K61
open PySem L2
local macro_rules | `(tactic| walk_at "same") => `(tactic| first | exact Same.refl _ | assumption | (refine Same.trans (by assumption) ?_; walk_at "same"))
local macro_rules | `(tactic| walk_at "sq") => `(tactic| first | assumption | exact SqT.of (by assumption) | exact SqL.of (by assumption) | (refine Same.tup (by assumption) ?_; walk_at "sq") | (refine Same.seq (by assumption) ?_; walk_at "sq") | (refine Same.use (by assumption) ?_; walk_at "sq"))
local macro_rules | `(tactic| walk_at "leaf") => `(tactic| first | rfl | assumption | walk_at "sq" | (refine Or.inl ?_; walk_at "sq") | (refine Or.inr ?_; walk_at "sq") | exact sz _ (by decide) | exact ⟨by decide, by decide⟩ | exact ⟨by decide, by decide, by decide⟩ | exact Or.inl ⟨by decide, by decide⟩ | exact Or.inr ⟨by decide, by decide⟩ | (dsimp only; omega) | omega | exact Or.inl ⟨by omega, by omega⟩ | exact Or.inr ⟨by omega, by omega⟩ | exact ⟨by omega, by omega⟩ | (show (0 : Int) < _; decide))
local macro_rules | `(tactic| walk_at "rd") => `(tactic| repeat (first | apply Exists.intro | refine And.intro (by walk_at "leaf") ?_ | refine iteT ?_ | refine iteF ?_))
def top (i : Nat) : Stmt := PySem.Challenge.pw_greywait_k61_latest_turns.main.body.getD i (.Pass ⟨0, 0, 0, 0⟩)
abbrev s_is_whole : Stmt := top 5
abbrev s_common_divisor : Stmt := top 7
abbrev s_common_bottom : Stmt := top 9
abbrev s_place_key : Stmt := top 10
abbrev s_claims_in_order : Stmt := top 11
abbrev s_numbers_in_order : Stmt := top 12
abbrev s_numbers_worked : Stmt := top 14
abbrev s_chores_behind : Stmt := top 15
abbrev s_turn_done : Stmt := top 16
abbrev s_chores_taken : Stmt := top 18
abbrev s_run_of : Stmt := top 19
abbrev s_is_piece_of : Stmt := top 21
abbrev s_check_piece : Stmt := top 22
abbrev s_last_turns : Stmt := top 23
abbrev s_latest_all : Stmt := top 24
abbrev s_latest_of : Stmt := top 25
abbrev s_witness_run : Stmt := top 26
abbrev s_law_mix : Stmt := top 28
abbrev s_law_draw : Stmt := top 29
abbrev s_law_whole : Stmt := top 30
abbrev s_law_weight : Stmt := top 31
abbrev s_law_heft : Stmt := top 32
abbrev s_law_order : Stmt := top 33
abbrev s_law_turn : Stmt := top 34
abbrev s_law_run : Stmt := top 35
abbrev s_law_ends : Stmt := top 36
abbrev s_law_chores : Stmt := top 37
abbrev s_law_case : Stmt := top 38
abbrev s_law_refused : Stmt := top 39
abbrev s_law_right : Stmt := top 40
abbrev s_law : Stmt := top 41
abbrev si_NoPiece : Stmt := inClass (top 2) 0
theorem sci_NoPiece : FnScope ["self", "number"] ["self", "number"] (defScope si_NoPiece) := ⟨rfl, rfl, rfl, by decide +kernel, rfl, by decide +kernel, by decide +kernel⟩
abbrev si_NoEnd : Stmt := inClass (top 3) 0
theorem sci_NoEnd : FnScope ["self", "number"] ["self", "number"] (defScope si_NoEnd) := ⟨rfl, rfl, rfl, by decide +kernel, rfl, by decide +kernel, by decide +kernel⟩
structure Txt (K : PySem.W.Frag) (mg : Str → Option Value) (c_WaitError c_NoPiece c_NoEnd : Addr) : Prop where
  nd : [c_WaitError, c_NoPiece, c_NoEnd].Nodup
  g_WaitError : mg "WaitError" = some (.ref c_WaitError)
  d_WaitError : XD K c_WaitError [.type "ValueError", .type "Exception", .type "BaseException", .type "object"]
  x_WaitError : XCls K c_WaitError
  g_NoPiece : mg "NoPiece" = some (.ref c_NoPiece)
  d_NoPiece : XD K c_NoPiece [.ref c_WaitError, .type "ValueError", .type "Exception", .type "BaseException", .type "object"]
  x_NoPiece : XCls K c_NoPiece
  n_NoPiece : NoAttr K c_NoPiece "number"
  g_NoEnd : mg "NoEnd" = some (.ref c_NoEnd)
  d_NoEnd : XD K c_NoEnd [.ref c_WaitError, .type "ValueError", .type "Exception", .type "BaseException", .type "object"]
  x_NoEnd : XCls K c_NoEnd
  n_NoEnd : NoAttr K c_NoEnd "number"
  b_all : mg "all" = none
  b_any : mg "any" = none
  b_bool : mg "bool" = none
  b_dict : mg "dict" = none
  b_enumerate : mg "enumerate" = none
  b_int : mg "int" = none
  b_isinstance : mg "isinstance" = none
  b_len : mg "len" = none
  b_list : mg "list" = none
  b_max : mg "max" = none
  b_range : mg "range" = none
  b_repr : mg "repr" = none
  b_sorted : mg "sorted" = none
  q_int_int : PySem.W.kitOne K (.type "int") (.type "int") = some true
  q_int_bool : PySem.W.kitOne K (.type "int") (.type "bool") = some false
  q_bool_bool : PySem.W.kitOne K (.type "bool") (.type "bool") = some true
  q_dict_dict : PySem.W.kitOne K (.type "dict") (.type "dict") = some true
  q_NoneType_bool : PySem.W.kitOne K (.type "NoneType") (.type "bool") = some false
  q_NoneType_int : PySem.W.kitOne K (.type "NoneType") (.type "int") = some false
  q_str_bool : PySem.W.kitOne K (.type "str") (.type "bool") = some false
  q_str_int : PySem.W.kitOne K (.type "str") (.type "int") = some false
  q_list_bool : PySem.W.kitOne K (.type "list") (.type "bool") = some false
  q_list_int : PySem.W.kitOne K (.type "list") (.type "int") = some false
  q_tuple_bool : PySem.W.kitOne K (.type "tuple") (.type "bool") = some false
  q_tuple_int : PySem.W.kitOne K (.type "tuple") (.type "int") = some false
section
variable {c_WaitError c_NoPiece c_NoEnd : Addr}
variable {P : Program} {w : World} {K : PySem.W.Frag} {mg : Str → Option Value} {base : Heap} {f : Addr} {fd : FuncData}
def spDiv : Sp := fun vs H Q _ => ∃ x y : Int, vs = [.int x, .int y] ∧ 0 ≤ x ∧ 0 ≤ y ∧ Q (.int (M1.gd x y)) H
def spWeight : Sp := fun vs H Q _ => ∃ x k : Int, vs = [.int x, .int k] ∧ 0 ≤ k ∧ ∀ p H' t b, Same H H' → IsW H' p t b → Q (.ref p) H'
theorem lk1 (f : Str) (v : V) : ([(f, v)] : List (Str × V)).lookup f = some v := by
  simp [List.lookup]
theorem pow6 : (10 : Int) ^ (6 : Int).toNat = 1000000 := by decide
def spWhole : Sp := fun vs H Q _ => ∃ i : Int, vs = [.int i] ∧ Q (.bl true) H
def lamPos : Pos := match (defBody s_claims_in_order).getLast? with
  | some (.Return (some (.Call _ _ [⟨_, .Lambda _ _ _ lp, _⟩] _)) _) => lp
  | _ => ⟨0, 0, 0, 0⟩
def lamQ : Str := (("claims_in_order" : Str) ++ ".<locals>.") ++ "<lambda>"
variable {tT : Addr}
def spLaw (K : PySem.W.Frag) (tT : Addr) : Sp := fun vs H Q _ => ∃ (a : Addr) (ns : List Int), vs = [.ref a] ∧ SqL K H a (ns.map V.int) ∧ ns.length ≤ 63 ∧ H tT = some (.tbl lamPos lamQ) ∧ ∀ H', Q (.bl true) H'
def spBottom (K : PySem.W.Frag) : Sp := fun vs H Q _ => ∃ (l : Addr) (ps : List (Addr × Cl)), vs = [.ref l] ∧ IsCs K H l ps ∧ Good (ps.map (·.2)) ∧ ∀ M H', Same H H' → 0 < M → M ≤ 27720 → (∀ c ∈ ps.map (·.2), c.wb ∣ M ∧ c.sb ∣ M) → Q (.int M) H'
def spKey (K : PySem.W.Frag) : Sp := fun vs H Q _ => ∃ (p : Addr) (c : Cl) (t M : Int), vs = [.ref p, .int t, .int M] ∧ IsCl K H p c ∧ c.Ok ∧ 0 < M ∧ M ≤ 27720 ∧ ∀ r H', Same H H' → H' r = some (.tup ((kM c t M).map V.int)) → Q (.ref r) H'
def spSortd (K : PySem.W.Frag) (tT : Addr) : Sp := fun vs H Q _ => ∃ (l : Addr) (ps : List (Addr × Cl)) (t : Int), vs = [.ref l, .int t] ∧ IsCs K H l ps ∧ Good (ps.map (·.2)) ∧ ps.length ≤ 40 ∧ H tT = some (.tbl lamPos lamQ) ∧
  ∀ D H' (qs : List (Addr × Cl)), Same H H' → H D = none → H' D = some (.lst (qs.map fun q => V.ref q.1)) → qs.Perm ps → Srt t (qs.map (·.2)) → Q (.ref D) H'
def spNumbers (K : PySem.W.Frag) (tT : Addr) : Sp := fun vs H Q _ => ∃ (l : Addr) (ps : List (Addr × Cl)) (t : Int), vs = [.ref l, .int t] ∧ IsCs K H l ps ∧ Good (ps.map (·.2)) ∧ ps.length ≤ 40 ∧ H tT = some (.tbl lamPos lamQ) ∧
  ∀ m H', Same H H' → H m = none → H' m = some (.lst (((ord (ps.map (·.2)) t).map (·.n)).map V.int)) → Q (.ref m) H'
structure ChIn (K : PySem.W.Frag) (H : Hp) (l : Addr) (xs : List (Addr × Cl × Int)) : Prop where
  chs : IsChs K H l xs
  len : xs.length ≤ 40
  ok : ∀ q, q ∈ xs → ChOk 1000 q.2
  nd : (xs.map (·.2.1.n)).Nodup
theorem ChIn.same {H H' : Hp} {l : Addr} {xs : List (Addr × Cl × Int)} (s : Same H H') (h : ChIn K H l xs) : ChIn K H' l xs := ⟨h.chs.same s, h.len, h.ok, h.nd⟩
theorem ChIn.good {H : Hp} {l : Addr} {xs : List (Addr × Cl × Int)} (h : ChIn K H l xs) (t : Int) : Good (csOf t xs) := csOf_good (fun q hq => (h.ok q hq).ok) h.nd
def spWorked (K : PySem.W.Frag) (tT : Addr) : Sp := fun vs H Q _ => ∃ (l : Addr) (xs : List (Addr × Cl × Int)) (h t : Int), vs = [.ref l, .int h, .int t] ∧ ChIn K H l xs ∧ 0 ≤ h ∧ H tT = some (.tbl lamPos lamQ) ∧ ∀ m H', Same H H' → H m = none → H' m = some (.lst ((workL t h.toNat xs).map V.int)) → Q (.ref m) H'
def spBehind (K : PySem.W.Frag) : Sp := fun vs H Q _ => ∃ (l m : Addr) (xs : List (Addr × Cl × Int)) (ws : List Int), vs = [.ref l, .ref m] ∧ ChIn K H l xs ∧ H m = some (.lst (ws.map V.int)) ∧ ∀ D H' bs, Same H H' → H D = none → IsBh H' D (behL H ws xs) bs → Q (.ref D) H'
def spDone (K : PySem.W.Frag) (tT : Addr) : Sp := fun vs H Q _ => ∃ (l : Addr) (xs : List (Addr × Cl × Int)) (h t : Int), vs = [.ref l, .int h, .int t] ∧ ChIn K H l xs ∧ 0 ≤ h ∧ H tT = some (.tbl lamPos lamQ) ∧
  ∀ p m D H' bs, Same H H' → H' p = some (.tup [.ref m, .ref D]) → H m = none → H D = none → m ≠ D → H' m = some (.lst ((workL t h.toNat xs).map V.int)) → IsBh H' D (behL H (workL t h.toNat xs) xs) bs → Q (.ref p) H'
theorem ChIn.next {H H' : Hp} {l D : Addr} {xs : List (Addr × Cl × Int)} {ws : List Int} {bs : List (Addr × List V)} (hI : ChIn K H l xs) (s : Same H H') (B : IsBh H' D (behL H ws xs) bs) :
    ChIn K H' D (zipB bs (behL H ws xs)) ∧ (zipB bs (behL H ws xs)).map (·.2) = bhC ws (xs.map (·.2)) := by
  obtain ⟨c1, c2⟩ := B.chs (K := K) fun k hk => by
    obtain ⟨q0, hq0, e, _⟩ := behL_mem hk
    rw [e]
    exact (hI.chs.ch q0 hq0).kc.2.same s
  have cn : (zipB bs (behL H ws xs)).map (·.2.1.n) = (behL H ws xs).map (·.2.1.n) := by
    have := congrArg (List.map fun x : Cl × Int => x.1.n) c2
    rw [List.map_map, List.map_map] at this
    exact this
  refine ⟨⟨c1, ?_, fun q' hq' => ?_, ?_⟩, by rw [c2, behL_C]⟩
  · have := congrArg List.length c2
    rw [List.length_map, List.length_map] at this
    rw [this]
    exact Nat.le_trans (behL_len _ _ _) hI.len
  · have : q'.2 ∈ (behL H ws xs).map (·.2) := by
      rw [← c2]
      exact List.mem_map.mpr ⟨q', hq', rfl⟩
    obtain ⟨k, hk, e⟩ := List.mem_map.mp this
    obtain ⟨q0, hq0, e2, pos⟩ := behL_mem hk
    have o := hI.ok q0 hq0
    rw [← e, e2]
    have le : lessN ws q0.2 ≤ q0.2.2 := by
      unfold lessN
      split <;> omega
    exact ⟨o.ok, Int.le_of_lt pos, Int.le_trans le o.l1, o.cm⟩
  · rw [cn]
    exact behL_nd hI.nd
structure RunOf (H0 H : Hp) (h : Nat) (b : Int) (c : Ch) (D : Addr) (rs : List (Addr × Addr × Int × List Int)) : Prop where
  run : IsRun H D rs
  new : ∀ r, r ∈ rs → H0 r.2.1 = none
  ne : ∀ r, r ∈ rs → r.2.1 ≠ D
  eq : ∃ n, rs.map (fun r => (r.2.2.1, r.2.2.2)) = (runN h n b (bhC [] c)).1 ∧ (runN h n b (bhC [] c)).2 = [] ∧ ∀ k, k < n → (runN h k b (bhC [] c)).2 ≠ []
theorem RunOf.alike {H0 H1 H H' : Hp} {h : Nat} {b : Int} {c : Ch} {D E : Addr} {rs qs : List (Addr × Addr × Int × List Int)} (r : RunOf H0 H h b c D rs) (q : RunOf H1 H' h b c E qs) : rs.map (fun r => (r.2.2.1, r.2.2.2)) = qs.map (fun r => (r.2.2.1, r.2.2.2)) := by
  obtain ⟨n, a1, a2, a3⟩ := r.eq
  obtain ⟨m, b1, b2, b3⟩ := q.eq
  have := run_uniq a2 a3 b2 b3
  subst this
  rw [a1, b1]
theorem sum_le : ∀ {c : Ch}, (∀ k, k ∈ c → k.2 ≤ 12) → sumC c ≤ 12 * c.length
  | [], _ => Nat.le_refl _
  | k :: c, h => by
    have ih := sum_le (c := c) fun j hj => h j (List.mem_cons_of_mem _ hj)
    have := h k List.mem_cons_self
    unfold sumC at *
    simp
    omega
theorem ChIn.sum {H : Hp} {l : Addr} {xs : List (Addr × Cl × Int)} (hI : ChIn K H l xs) : sumC (xs.map (·.2)) ≤ 480 := by
  have a := sum_le (c := xs.map (·.2)) fun k hk => by
    obtain ⟨q, hq, rfl⟩ := List.mem_map.mp hk
    exact (hI.ok q hq).l1
  have := hI.len
  rw [List.length_map] at a
  omega
theorem ChIn.cm {H : Hp} {l : Addr} {xs : List (Addr × Cl × Int)} (hI : ChIn K H l xs) : ∀ k, k ∈ xs.map (·.2) → k.1.came ≤ 1000 := fun k hk => by
  obtain ⟨q, hq, rfl⟩ := List.mem_map.mp hk
  exact (hI.ok q hq).cm
def spTaken : Sp := fun vs H Q _ => ∃ l : Addr, vs = [.ref l, .non] ∧ Q (.ref l) H
def spRun (K : PySem.W.Frag) (tT : Addr) : Sp := fun vs H Q _ => ∃ (l : Addr) (xs : List (Addr × Cl × Int)) (h b : Int), vs = [.ref l, .int h, .int b, .non] ∧ ChIn K H l xs ∧ 0 < h ∧ 0 ≤ b ∧ b ≤ 1000 ∧ H tT = some (.tbl lamPos lamQ) ∧
  ∀ D H' rs, Same H H' → H D = none → RunOf H H' h.toNat b (xs.map (·.2)) D rs → (∀ r, r ∈ rs → r.2.2.2.length ≤ 40) → rs.length ≤ 1481 → Q (.ref D) H'
theorem wk_len {H : Hp} {l : Addr} {xs : List (Addr × Cl × Int)} (hI : ChIn K H l xs) (t : Int) (h : Nat) : (workL t h xs).length ≤ 40 := by
  unfold workL
  rw [List.length_take, List.length_map, (ord_perm _ _).length_eq]
  have : (csOf t xs).length ≤ xs.length := by
    unfold csOf
    rw [List.length_map]
    exact List.length_filter_le _ _
  have := hI.len
  omega
def NoInt (K : PySem.W.Frag) (H : Hp) (x : V) : Prop := ∃ t, TyOf K H x t ∧ (PySem.W.kitOne K t (.type "bool") = some true ∨ (PySem.W.kitOne K t (.type "bool") = some false ∧ PySem.W.kitOne K t (.type "int") = some false))
theorem NoInt.same {H H' : Hp} {x : V} (s : Same H H') (h : NoInt K H x) : NoInt K H' x := let ⟨t, ty, k⟩ := h; ⟨t, ty.same s, k⟩
def spIsWhole (K : PySem.W.Frag) : Sp := fun vs H Q _ => ∃ (x : V) (lo hi : Int), vs = [x, .int lo, .int hi] ∧ ((∃ i, x = .int i ∧ Q (.bl (decide (lo ≤ i) && decide (i ≤ hi))) H) ∨ (NoInt K H x ∧ Q (.bl false) H))
def NoPc (K : PySem.W.Frag) (H : Hp) (xs : List (Addr × Cl × Int)) (x : V) : Prop := NoInt K H x ∨ ∃ i : Int, x = .int i ∧ ∀ k, k ∈ xs → 0 < k.2.2 → k.2.1.n ≠ i
theorem NoPc.same {H H' : Hp} {xs : List (Addr × Cl × Int)} {x : V} (s : Same H H') (h : NoPc K H xs x) : NoPc K H' xs x := h.imp (NoInt.same s) id
def spPcOf (K : PySem.W.Frag) : Sp := fun vs H Q _ => ∃ (l : Addr) (xs : List (Addr × Cl × Int)) (x : V), vs = [.ref l, x] ∧ ChIn K H l xs ∧ ((∃ k, k ∈ xs ∧ 0 < k.2.2 ∧ x = .int k.2.1.n ∧ ∀ H', Same H H' → Q (.bl true) H') ∨ (NoPc K H xs x ∧ ∀ H', Same H H' → Q (.bl false) H'))
def spChkP (K : PySem.W.Frag) (cP : Addr) : Sp := fun vs H Q E => ∃ (l : Addr) (xs : List (Addr × Cl × Int)) (x : V), vs = [.ref l, x] ∧ ChIn K H l xs ∧ ((∃ k, k ∈ xs ∧ 0 < k.2.2 ∧ x = .int k.2.1.n ∧ ∀ H', Same H H' → Q .non H') ∨ (NoPc K H xs x ∧ ∀ a H', Same H H' → Told K H' a cP "number" x → E (.ref cP) (some a) H'))
theorem sc_is_whole : FnScope ["thing", "low", "high"] ["thing", "low", "high"] (defScope s_is_whole) := ⟨rfl, rfl, rfl, by decide +kernel, rfl, by decide +kernel, by decide +kernel⟩
theorem ok_is_whole (D : Dfn K mg "is_whole" s_is_whole ["thing", "low", "high"] f fd) (T : Txt K mg c_WaitError c_NoPiece c_NoEnd) : Cal P w K mg base "is_whole" 1 ["thing", "low", "high"] (spIsWhole K) := by
  refine D.cal (D.F.ok sc_is_whole (fun vs H Q E h => ?_) (fun cdv A outer s H vs Q E hr h => ?_))
  · obtain ⟨i, lo, hi, rfl, _⟩ := h
    rfl
  obtain ⟨x, lo, hi, rfl, h⟩ := h
  refine ⟨_, (pss_cons (ps_if (PW.pt (pw_or (pt_val (pe_callB (call_isYT (n := "bool")) rfl T.b_isinstance bt_isinstance (pa_cons (pv 0) (pa_cons (pe_bltn (v := .ty "bool") rfl T.b_bool bt_bool rfl) pa_nil)))) (pw_or1 (pt_not (pt_val (pe_callB (call_isYT (n := "int")) rfl T.b_isinstance bt_isinstance (pa_cons (pv 0) (pa_cons (pe_bltn (v := .ty "int") rfl T.b_int bt_int rfl) pa_nil)))))))) (pss_one (ps_ret pe_bl)) pss_nil)
      (pss_one (ps_ret (pe_chain op_le op_le (pv 1) (pv 0) (pv 2))))), ?_⟩
  rcases h with ⟨i, rfl, q⟩ | ⟨⟨t, ty, hk | ⟨hk, hi2⟩⟩, q⟩
  · refine ⟨_, rfl, _, _, _, rfl, .old (.int i), T.q_int_bool, _, rfl, iteF ?_⟩
    refine ⟨_, rfl, _, _, _, rfl, .old (.int i), T.q_int_int, _, rfl, iteF ?_⟩
    refine ⟨_, rfl, _, rfl, _, _, rfl, rfl, _, rfl, ?_⟩
    refine ite2 (fun c => ?_) (fun c => ?_)
    · rw [c, Bool.true_and] at q
      exact ⟨_, rfl, _, _, rfl, rfl, q⟩
    · rw [Bool.eq_false_iff.mpr c, Bool.false_and] at q
      exact q
  · refine ⟨_, rfl, _, _, _, rfl, .old ty, hk, _, rfl, iteT (iteT ?_)⟩
    exact q
  · refine ⟨_, rfl, _, _, _, rfl, .old ty, hk, _, rfl, iteF ?_⟩
    refine ⟨_, rfl, _, _, _, rfl, .old ty, hi2, _, rfl, iteT ?_⟩
    exact q
theorem sc_is_piece_of : FnScope ["chores", "number"] ["chores", "number"] (defScope s_is_piece_of) := ⟨rfl, rfl, rfl, by decide +kernel, rfl, by decide +kernel, by decide +kernel⟩
theorem ok_is_piece_of (D : Dfn K mg "is_piece_of" s_is_piece_of ["chores", "number"] f fd) (T : Txt K mg c_WaitError c_NoPiece c_NoEnd) (C_is_whole : Cal P w K mg base "is_whole" 1 ["thing", "low", "high"] (spIsWhole K)) : Cal P w K mg base "is_piece_of" 2 ["chores", "number"] (spPcOf K) := by
  refine D.cal (D.F.ok sc_is_piece_of (fun vs H Q E h => ?_) (fun cdv A outer s H vs Q E hr h => ?_))
  · obtain ⟨l, xs, x, rfl, _⟩ := h
    rfl
  obtain ⟨l, xs, x, rfl, hI, h⟩ := h
  refine ⟨_, (pss_one (ps_ret (pe_callB (call_anyB rfl) rfl T.b_any bt_any (pa_cons (pe_comp (N := ["chore", "number"]) (js := [1]) rfl (CompScope.of rfl rfl rfl rfl rfl (by decide +kernel) rfl rfl rfl rfl) (pi_list (pv 0)) (fun _ _ _ _ _ => ct_nil) (fun _ _ _ _ _ => (pe_and (pe_cmpR op_gt (pe_ix (r := rIxT K) ix_tup (pv 0) pe_int (fun _ _ => rfl)) pe_int (nomark _)) (pe_one (pe_cal C_is_whole (hr.mono (by decide)) rfl (pa_cons (pv 1) (pa_cons (pe_ix (r := rIxT K) ix_tup (pe_ix (r := rIxT K) ix_tup (pv 0) pe_int (fun _ _ => rfl)) pe_int (fun _ _ => rfl)) (pa_cons (pe_ix (r := rIxT K) ix_tup (pe_ix (r := rIxT K) ix_tup (pv 0) pe_int (fun _ _ => rfl)) pe_int (fun _ _ => rfl)) pa_nil)))))))) pa_nil)))), ?_⟩
  have ml : (xs.map fun q => V.ref q.1).length = xs.length := List.length_map _
  refine ⟨_, rfl, l, rfl, ⟨_, SqL.of hI.chs.at_⟩, ?_⟩
  obtain ⟨w, hw, q⟩ : ∃ w : Addr × Cl × Int → Bool, (∀ (k : Addr × Cl × Int) (Hh : Hp) (Q' : VK), Same H Hh → Q' (.bl (w k)) Hh → (∃ i, x = .int i ∧ Q' (.bl (decide (k.2.1.n ≤ i) && decide (i ≤ k.2.1.n))) Hh) ∨ (NoInt K Hh x ∧ Q' (.bl false) Hh)) ∧
      (∀ H', Same H H' → Q (.bl (xs.any fun k => decide (0 < k.2.2) && w k)) H') := by
    rcases h with ⟨k0, hk0, p0, rfl, q⟩ | ⟨no | ⟨i, rfl, no⟩, q⟩
    · refine ⟨fun k => decide (k.2.1.n ≤ k0.2.1.n) && decide (k0.2.1.n ≤ k.2.1.n), fun k Hh Q' _ z => .inl ⟨_, rfl, z⟩, fun H' s => ?_⟩
      have : (xs.any fun k => decide (0 < k.2.2) && (decide (k.2.1.n ≤ k0.2.1.n) && decide (k0.2.1.n ≤ k.2.1.n))) = true := by
        rw [List.any_eq_true]
        refine ⟨k0, hk0, ?_⟩
        rw [decide_eq_true p0, decide_eq_true (Int.le_refl _)]
        rfl
      rw [this]
      exact q H' s
    · refine ⟨fun _ => false, fun k Hh Q' s z => .inr ⟨no.same s, z⟩, fun H' s => ?_⟩
      have : (xs.any fun k => decide (0 < k.2.2) && false) = false := by
        rw [List.any_eq_false]
        intro k _ z
        rw [Bool.and_false] at z
        cases z
      rw [this]
      exact q H' s
    · refine ⟨fun k => decide (k.2.1.n ≤ i) && decide (i ≤ k.2.1.n), fun k Hh Q' _ z => .inl ⟨_, rfl, z⟩, fun H' s => ?_⟩
      have : (xs.any fun k => decide (0 < k.2.2) && (decide (k.2.1.n ≤ i) && decide (i ≤ k.2.1.n))) = false := by
        rw [List.any_eq_false]
        intro k hk z
        rw [Bool.and_eq_true, Bool.and_eq_true, decide_eq_true_iff, decide_eq_true_iff, decide_eq_true_iff] at z
        exact no k hk z.1 (by omega)
      rw [this]
      exact q H' s
  refine comp_list (xs := xs.map fun q => V.ref q.1) (fun _ => true) (itm xs fun k => V.bl (decide (0 < k.2.2) && w k)) (SqL.of hI.chs.at_) (fun i x Hh Q' hx sh q' => q' Hh (Same.refl _)) ?_ (small1000 (by rw [ml]; have := hI.len; omega)) (fun D H2 s2 nD hD => ?_)
  · intro i y Hh Q' hi _ sh q'
    rw [List.getElem?_map] at hi
    cases e : xs[i]? with
    | none => rw [e] at hi; cases hi
    | some k =>
      rw [e] at hi
      cases hi
      have hk := List.mem_of_getElem? e
      obtain ⟨k1, k2⟩ := (hI.chs.ch k hk).kc
      obtain ⟨_, _, c1, _, _⟩ := id k2.ex
      have z : Q' (V.bl (decide (0 < k.2.2) && w k)) Hh := by
        have z := q' Hh (Same.refl _)
        unfold itm at z
        rw [e] at z
        exact z
      refine ⟨_, rfl, k.1, _, _, _, rfl, rfl, SqT.of (sh _ _ k1), rfl, _, _, rfl, rfl, _, rfl, ?_⟩
      by_cases c : 0 < k.2.2
      · refine iteD c ?_
        rw [decide_eq_true c, Bool.true_and] at z
        exact ⟨_, rfl, _, rfl, k.1, _, _, _, rfl, rfl, SqT.of (sh _ _ k1), rfl, _, _, _, _, rfl, rfl, SqT.of (sh _ _ c1), rfl, _, rfl, k.1, _, _, _, rfl, rfl, SqT.of (sh _ _ k1), rfl, _, _, _, _, rfl, rfl, SqT.of (sh _ _ c1), rfl, x, _, _, rfl, hw k Hh Q' sh z⟩
      · refine iteDn c ?_
        rw [decide_eq_false c, Bool.false_and] at z
        exact z
  rw [filter_all, ml, itm_map] at hD
  have hD : H2 D = some (.lst ((xs.map fun k => decide (0 < k.2.2) && w k).map V.bl)) := by
    rw [hD, List.map_map]
    rfl
  refine ⟨D, _, rfl, SqL.of hD, ?_⟩
  rw [show (xs.map fun k => decide (0 < k.2.2) && w k).any id = xs.any (fun k => decide (0 < k.2.2) && w k) by rw [List.any_map]; rfl]
  exact q H2 s2
theorem sc_check_piece : FnScope ["chores", "number"] ["chores", "number"] (defScope s_check_piece) := ⟨rfl, rfl, rfl, by decide +kernel, rfl, by decide +kernel, by decide +kernel⟩
theorem ok_check_piece (D : Dfn K mg "check_piece" s_check_piece ["chores", "number"] f fd) (T : Txt K mg c_WaitError c_NoPiece c_NoEnd) (C_is_piece_of : Cal P w K mg base "is_piece_of" 2 ["chores", "number"] (spPcOf K)) (X_NoPiece : XCal P w K mg base "NoPiece" c_NoPiece "number") : Cal1 P w K mg base "check_piece" 4 ["chores", "number"] (spChkP K c_NoPiece) := by
  refine D.cal1 (D.F.ok1 sc_check_piece (fun vs H Q E h => ?_) (fun cdv A outer s H vs Q E hr h => ?_))
  · obtain ⟨l, xs, x, rfl, _⟩ := h
    rfl
  obtain ⟨l, xs, x, rfl, hI, h⟩ := h
  refine ⟨_, (pss_one (ps_if (pt_not (pt_val (pe_cal C_is_piece_of (hr.mono (by decide)) rfl (pa_cons (pv 0) (pa_cons (pv 1) pa_nil))))) (pss_one (ps_raise T.x_NoPiece hr.hd (pe_xcal X_NoPiece (hr.mono (by decide)) rfl (pa_cons (pv 1) pa_nil)))) pss_nil)), ?_⟩
  rcases h with ⟨k, hk, p, rfl, q⟩ | ⟨no, qE⟩
  · exact ⟨_, rfl, _, rfl, l, xs, _, rfl, hI, .inl ⟨k, hk, p, rfl, fun H1 s1 => ⟨_, rfl, iteF (q H1 s1)⟩⟩⟩
  · exact ⟨_, rfl, _, rfl, l, xs, _, rfl, hI, .inr ⟨no, fun H1 s1 => ⟨_, rfl, iteT ⟨_, rfl, _, rfl, raise_told s1 qE⟩⟩⟩⟩
theorem sc_common_divisor : FnScope ["one", "other", "rest"] ["one", "other"] (defScope s_common_divisor) := ⟨rfl, rfl, rfl, by decide +kernel, rfl, by decide +kernel, by decide +kernel⟩
theorem ok_common_divisor (D : Dfn K mg "common_divisor" s_common_divisor ["one", "other"] f fd) (T : Txt K mg c_WaitError c_NoPiece c_NoEnd) : Cal P w K mg base "common_divisor" 1 ["one", "other"] spDiv := by
  refine D.cal (D.F.ok sc_common_divisor (fun vs H Q E h => ?_) (fun cdv A outer s H vs Q E hr h => ?_))
  · obtain ⟨x, y, rfl, _⟩ := h
    rfl
  obtain ⟨x, y, rfl, hx, hy, q⟩ := h
  refine ⟨_, (pss_cons (ps_while PassesOwn.never (pt_cmpR op_gt (pv 1) pe_int (nomark _)) (pss_cons (ps_set (i := 2) sc_common_divisor.nd rfl (Or.inl rfl) (pe_op op_mod (pv 0) (pv 1)))
      (pss_cons (ps_set (i := 0) sc_common_divisor.nd rfl (Or.inl rfl) (pv 1))
      (pss_one (ps_set (i := 1) sc_common_divisor.nd rfl (Or.inl rfl) (pv 2))))))
      (pss_one (ps_ret (pv 0)))), ?_⟩
  refine while_by (fun σ H' => ∃ (a b : Int) (r : Option V), σ = [some (.int a), some (.int b), r] ∧ 0 ≤ a ∧ 0 ≤ b ∧ M1.gd a b = M1.gd x y ∧ H' = H)
    (fun σ _ => match σ with | [_, some (.int b), _] => b.toNat | _ => 0) ⟨x, y, none, rfl, hx, hy, rfl, rfl⟩ ?_ ?_
  · rintro σ H' ⟨a, b, r, rfl, ha, hb, hg, rfl⟩
    refine ⟨_, rfl, _, _, rfl, rfl, _, rfl, ?_⟩
    refine ite2 (fun c => ?_) (fun c => ?_)
    · have c' : 0 < b := of_decide_eq_true c
      have m1 := Int.emod_nonneg a (show b ≠ 0 by omega)
      have m2 := Int.emod_lt_of_pos a c'
      refine ⟨_, rfl, _, rfl, _, _, rfl, rfl, c', _, rfl, _, rfl, ?_⟩
      refine ⟨⟨b, a % b, _, rfl, hb, m1, M1.gd_step.trans hg, rfl⟩, ?_⟩
      show (a % b).toNat < b.toNat
      omega
    · have c' : ¬ 0 < b := of_decide_eq_false (Bool.eq_false_iff.mpr c)
      have e : b = 0 := by omega
      subst e
      rw [M1.gd_zero ha] at hg
      refine ⟨_, rfl, ?_⟩
      rw [hg]
      exact q
  · rintro σ H' Q1 Q2 hq ⟨v, e, i, j, e1, e2, k, ek, q1⟩
    exact ⟨v, e, i, j, e1, e2, k, ek, hq _ _ q1⟩
theorem sc_common_bottom : FnScope ["claims", "common", "claim", "bottom"] ["claims"] (defScope s_common_bottom) := ⟨rfl, rfl, rfl, by decide +kernel, rfl, by decide +kernel, by decide +kernel⟩
theorem ok_common_bottom (D : Dfn K mg "common_bottom" s_common_bottom ["claims"] f fd) (T : Txt K mg c_WaitError c_NoPiece c_NoEnd) (C_common_divisor : Cal P w K mg base "common_divisor" 1 ["one", "other"] spDiv) : Cal P w K mg base "common_bottom" 2 ["claims"] (spBottom K) := by
  refine D.cal (D.F.ok sc_common_bottom (fun vs H Q E h => ?_) (fun cdv A outer s H vs Q E hr h => ?_))
  · obtain ⟨l, ps, rfl, _⟩ := h
    rfl
  obtain ⟨l, ps, rfl, hC, G, q⟩ := h
  refine ⟨_, (pss_cons (ps_set (i := 1) sc_common_bottom.nd rfl (Or.inl rfl) pe_int)
      (pss_cons (ps_for PassesOwn.never rfl (pi_list (pv 0)) (pg_name (i := 2) sc_common_bottom.nd rfl (Or.inl rfl)) (pss_one (ps_for PassesOwn.never rfl (pi_tup (pe_tupS (pa_cons (pe_ix ix_tup (pe_ix ix_tup (pv 2) pe_int (fun _ _ => rfl)) pe_int (fun _ _ => rfl)) (pa_cons (pe_ix ix_tup (pe_ix ix_tup (pv 2) pe_int (fun _ _ => rfl)) pe_int (fun _ _ => rfl)) pa_nil)))) (pg_name (i := 3) sc_common_bottom.nd rfl (Or.inl rfl)) (pss_one (ps_set (i := 1) sc_common_bottom.nd rfl (Or.inl rfl) (pe_op op_fdivB (pe_op op_mul (pv 1) (pv 3)) (pe_cal C_common_divisor (hr.mono (by decide)) rfl (pa_cons (pv 1) (pa_cons (pv 3) pa_nil)))))))))
      (pss_one (ps_ret (pv 1))))), ?_⟩
  refine ⟨_, rfl, l, rfl, ⟨_, SqL.of hC.at_⟩, ?_⟩
  refine for_list (K := K) (a := l) (xs := ps.map fun q => V.ref q.1) (fun i σ H1 => ∃ (M : Int) (v2 v3 : Option V), σ = [some (.ref l), some (.int M), v2, v3] ∧ Same H H1 ∧ 0 < M ∧ M ∣ 27720 ∧ ∀ j y, j < i → ps[j]? = some y → y.2.wb ∣ M ∧ y.2.sb ∣ M)
    ⟨1, _, _, rfl, Same.refl _, by decide, by decide, fun j y z => by omega⟩ (fun i σ H1 _ ⟨_, _, _, _, s1, _⟩ => SqL.of (s1 _ _ hC.at_)) ?_ ?_
  · rintro i x σ H1 hi ⟨M, v2, v3, rfl, s1, M0, Md, hM⟩
    rw [List.getElem?_map] at hi
    cases e : ps[i]? with
    | none => rw [e] at hi; cases hi
    | some y =>
      rw [e] at hi
      cases hi
      have hy := List.mem_of_getElem? e
      have ok := G.ok y.2 (List.mem_map.mpr ⟨y, hy, rfl⟩)
      obtain ⟨pw, ps', z1, z2, z3⟩ := ((hC.cl y hy).same s1).ex
      refine ⟨_, rfl, y.1, _, _, _, rfl, rfl, SqT.of z1, rfl, pw, _, _, _, rfl, rfl, SqT.of z2, rfl, _, rfl, y.1, _, _, _, rfl, rfl, SqT.of z1, rfl, ps', _, _, _, rfl, rfl, SqT.of z3, rfl, sz 2 (by decide), fun lt H2 s2 n2 h2 => ?_⟩
      refine ⟨lt, rfl, ⟨_, SqT.of h2⟩, ?_⟩
      have w2 := ok.w2
      have w3 := ok.w3
      have b2 := ok.s2
      have b3 := ok.s3
      refine for_tup (K := K) (a := lt) (xs := [V.int y.2.wb, V.int y.2.sb]) (fun k σ H3 => ∃ (N : Int) (v3 : Option V), σ = [some (.ref l), some (.int N), some (.ref y.1), v3] ∧ Same H2 H3 ∧ 0 < N ∧ N ∣ 27720 ∧ M ∣ N ∧ (0 < k → y.2.wb ∣ N) ∧ (1 < k → y.2.sb ∣ N))
        ⟨M, _, rfl, Same.refl _, M0, Md, Int.dvd_refl _, fun z => by omega, fun z => by omega⟩ (fun k σ H3 _ ⟨_, _, _, s3, _⟩ => SqT.of (s3 _ _ h2)) ?_ ?_
      · rintro k x σ H3 hk ⟨N, v3, rfl, s3, N0, N1, N2, N3, N4⟩
        have hx : ∃ b : Int, x = .int b ∧ 0 < b ∧ b ≤ 12 ∧ ((k = 0 ∧ b = y.2.wb) ∨ (k = 1 ∧ b = y.2.sb)) := by
          rcases (by have := (List.getElem?_eq_some_iff.mp hk).1; simp at this; omega : k = 0 ∨ k = 1) with rfl | rfl
          · simp at hk
            exact ⟨_, hk.symm, w2, w3, .inl ⟨rfl, rfl⟩⟩
          · simp at hk
            exact ⟨_, hk.symm, b2, b3, .inr ⟨rfl, rfl⟩⟩
        obtain ⟨b, rfl, b0, b1, hb⟩ := hx
        have Nle : N ≤ 27720 := Int.le_of_dvd (by decide) N1
        obtain ⟨L0, L1, L2, L3⟩ := lcm_step N0 b0
        have g0 := M1.gd_pos (x := N) b0
        have g1 := M1.gd_le (x := N) b0
        refine ⟨_, rfl, _, rfl, _, _, rfl, rfl, .inr ⟨by omega, by omega⟩, _, rfl, _, rfl, N, b, rfl, by omega, by omega, _, _, rfl, rfl, ⟨g0, by omega⟩, ?_⟩
        refine ⟨_, _, rfl, s3, L0, L3 _ N1 (dvd_27720 b0 b1), Int.dvd_trans N2 L1, fun _ => ?_, fun z => ?_⟩
        · rcases hb with ⟨rfl, rfl⟩ | ⟨rfl, rfl⟩
          · exact L2
          · exact Int.dvd_trans (N3 (by omega)) L1
        · rcases hb with ⟨rfl, rfl⟩ | ⟨rfl, rfl⟩
          · omega
          · exact L2
      · rintro σ H3 ⟨N, v3, rfl, s3, N0, N1, N2, N3, N4⟩
        refine ⟨N, _, _, rfl, s1.trans (s2.trans s3), N0, N1, fun j z hj hz => ?_⟩
        by_cases ji : j = i
        · subst ji
          rw [e] at hz
          cases hz
          exact ⟨N3 (by simp), N4 (by simp)⟩
        · obtain ⟨d1, d2⟩ := hM j z (by omega) hz
          exact ⟨Int.dvd_trans d1 N2, Int.dvd_trans d2 N2⟩
  · rintro σ H1 ⟨M, v2, v3, rfl, s1, M0, Md, hM⟩
    refine ⟨_, rfl, q M H1 s1 M0 (Int.le_of_dvd (by decide) Md) fun c hc => ?_⟩
    obtain ⟨y, hy, rfl⟩ := List.mem_map.mp hc
    obtain ⟨j, hj, ej⟩ := List.getElem_of_mem hy
    exact hM j y (by rw [List.length_map]; exact hj) (by rw [List.getElem?_eq_getElem hj, ej])
theorem sc_place_key : FnScope ["claim", "turn", "common", "weight", "speed"] ["claim", "turn", "common"] (defScope s_place_key) := ⟨rfl, rfl, rfl, by decide +kernel, rfl, by decide +kernel, by decide +kernel⟩
theorem ok_place_key (D : Dfn K mg "place_key" s_place_key ["claim", "turn", "common"] f fd) (T : Txt K mg c_WaitError c_NoPiece c_NoEnd) : Cal P w K mg base "place_key" 1 ["claim", "turn", "common"] (spKey K) := by
  refine D.cal (D.F.ok sc_place_key (fun vs H Q E h => ?_) (fun cdv A outer s H vs Q E hr h => ?_))
  · obtain ⟨p, c, t, M, rfl, _⟩ := h
    rfl
  obtain ⟨p, c, t, M, rfl, hc, ok, M0, M1, q⟩ := h
  refine ⟨_, (pss_cons (ps_set (i := 3) sc_place_key.nd rfl (Or.inl rfl) (pe_op op_mul (pe_ix ix_tup (pe_ix ix_tup (pv 0) pe_int (fun _ _ => rfl)) pe_int (fun _ _ => rfl)) (pe_op op_fdivB (pv 2) (pe_ix ix_tup (pe_ix ix_tup (pv 0) pe_int (fun _ _ => rfl)) pe_int (fun _ _ => rfl)))))
      (pss_cons (ps_set (i := 4) sc_place_key.nd rfl (Or.inl rfl) (pe_op op_mul (pe_ix ix_tup (pe_ix ix_tup (pv 0) pe_int (fun _ _ => rfl)) pe_int (fun _ _ => rfl)) (pe_op op_fdivB (pv 2) (pe_ix ix_tup (pe_ix ix_tup (pv 0) pe_int (fun _ _ => rfl)) pe_int (fun _ _ => rfl)))))
      (pss_one (ps_ret (pe_tupS (pa_cons (pe_un un_neg (pe_op op_add (pv 3) (pe_op op_mul (pe_op op_sub (pv 1) (pe_ix ix_tup (pv 0) pe_int (fun _ _ => rfl))) (pv 4)))) (pa_cons (pe_ix ix_tup (pv 0) pe_int (fun _ _ => rfl)) (pa_cons (pe_ix ix_tup (pv 0) pe_int (fun _ _ => rfl)) pa_nil)))))))), ?_⟩
  obtain ⟨pw, ps, e1, e2, e3⟩ := id hc.ex
  have hp : SqT K H p _ := SqT.of e1
  have hw : SqT K H pw _ := SqT.of e2
  have hs : SqT K H ps _ := SqT.of e3
  have w2 := ok.w2
  have w3 := ok.w3
  have b2 := ok.s2
  have b3 := ok.s3
  have d1 : M / c.wb ≤ M := Int.ediv_le_self _ (by omega)
  have d2 : 0 ≤ M / c.wb := Int.ediv_nonneg (by omega) (by omega)
  have d3 : M / c.sb ≤ M := Int.ediv_le_self _ (by omega)
  have d4 : 0 ≤ M / c.sb := Int.ediv_nonneg (by omega) (by omega)
  have d5 : c.st * (M / c.sb) ≤ 1000000 * 27720 := Int.mul_le_mul ok.s1 (by omega) d4 (by decide)
  have d6 : 0 ≤ c.st * (M / c.sb) := Int.mul_nonneg ok.s0 d4
  refine ⟨_, rfl, p, _, _, _, rfl, rfl, hp, rfl, pw, _, _, _, rfl, rfl, hw, rfl, _, rfl, _, rfl, p, _, _, _, rfl, rfl, hp, rfl, pw, _, _, _, rfl, rfl, hw, rfl, _, _, rfl, rfl, ⟨w2, by omega⟩, _, _, rfl, rfl, .inr ⟨by omega, by omega⟩, ?_⟩
  refine ⟨_, rfl, p, _, _, _, rfl, rfl, hp, rfl, ps, _, _, _, rfl, rfl, hs, rfl, _, rfl, _, rfl, p, _, _, _, rfl, rfl, hp, rfl, ps, _, _, _, rfl, rfl, hs, rfl, _, _, rfl, rfl, ⟨b2, by omega⟩, _, _, rfl, rfl, .inr ⟨by omega, by omega⟩, ?_⟩
  refine ⟨_, rfl, _, rfl, _, rfl, p, _, _, _, rfl, rfl, hp, rfl, _, _, rfl, rfl, _, rfl, _, _, rfl, rfl, .inr ⟨by omega, by omega⟩, _, _, rfl, rfl, _, rfl, ?_⟩
  refine ⟨_, rfl, p, _, _, _, rfl, rfl, hp, rfl, _, rfl, p, _, _, _, rfl, rfl, hp, rfl, sz 3 (by decide), fun r H1 s1 n1 h1 => ?_⟩
  exact q r H1 s1 h1
theorem sc_claims_in_order : FnScope ["claims", "turn", "common"] ["claims", "turn"] (defScope s_claims_in_order) := ⟨rfl, rfl, rfl, by decide +kernel, rfl, by decide +kernel, by decide +kernel⟩
theorem ok_claims_in_order {cv : Value} (D : DfnC K mg "claims_in_order" s_claims_in_order ["claims", "turn"] f fd cv) (SI : Site K mg base cv tT) (T : Txt K mg c_WaitError c_NoPiece c_NoEnd) (C_common_bottom : Cal P w K mg base "common_bottom" 2 ["claims"] (spBottom K)) (C_place_key : Cal P w K mg base "place_key" 1 ["claim", "turn", "common"] (spKey K)) : Cal P w K mg base "claims_in_order" 6 ["claims", "turn"] (spSortd K tT) := by
  refine D.cal (D.F.ok sc_claims_in_order (fun vs H Q E h => ?_) (fun A outer s H vs Q E hr h => ?_))
  · obtain ⟨l, ps, t, rfl, _⟩ := h
    rfl
  obtain ⟨l, ps, t, rfl, hC, G, pl, hT, q⟩ := h
  refine ⟨_, (pss_cons (ps_set (i := 2) sc_claims_in_order.nd rfl (Or.inr rfl) (pe_cal C_common_bottom (hr.mono (by decide)) rfl (pa_cons (pv 0) pa_nil)))
      (pss_one (ps_ret (pe_sortKey (N := ["claim", "turn", "common"]) (js := [1, 2]) (CompScope.of rfl rfl rfl rfl rfl (by decide +kernel) rfl rfl rfl rfl) SI rfl hr.depth rfl rfl T.b_sorted (pa_cons (pv 0) pa_nil) (fun _ _ _ _ _ => (pe_cal C_place_key (((hr.mono (j := 1 + 3) (by decide)).in1).in1.deeper _) rfl (pa_cons (pv 0) (pa_cons (pv 1) (pa_cons (pv 2) pa_nil))))))))), ?_⟩
  refine ⟨_, rfl, l, ps, rfl, hC, G, fun M H1 s1 M0 M1 hM => ?_⟩
  have ml : (ps.map fun q => V.ref q.1).length = (ps.map (·.2)).length := by rw [List.length_map, List.length_map]
  refine ⟨_, rfl, l, _, kf_at (ps.map (·.2)) t M, 3, rfl, SqL.of (hC.same s1).at_, by rw [ml, List.length_map]; omega, kf_len _ t M, by decide, by rw [ml]; exact kf_tot G M0 hM, s1 _ _ hT, fun H2 s2 => ⟨fun i v hv H3 s3 => ?_, fun D H' p s' n' h' hp hs => ?_⟩⟩
  · rw [List.getElem?_map] at hv
    cases e : ps[i]? with
    | none => rw [e] at hv; cases hv
    | some y =>
      rw [e] at hv
      cases hv
      have hy := List.mem_of_getElem? e
      refine ⟨_, rfl, _, rfl, _, rfl, y.1, y.2, t, M, rfl, (hC.cl y hy).same (s1.trans (s2.trans s3)), G.ok y.2 (List.mem_map.mpr ⟨y, hy, rfl⟩), M0, M1, fun r H4 s4 h4 => ⟨s4, r, rfl, ?_⟩⟩
      rw [h4]
      unfold kf_at
      rw [List.getElem?_map, e]
      rfl
  · rw [ml] at hp
    have s02 := s1.trans s2
    have d : Addr × Cl := (0, ⟨0, 0, 1, 0, 1, 0⟩)
    have lt : ∀ i ∈ p, i < ps.length := fun i hi => by
      have := List.mem_range.mp (hp.mem_iff.mp hi)
      simpa using this
    have hp2 : p.Perm (List.range ps.length) := by simpa using hp
    refine q D H' (p.map fun i => ps.getD i d) (s02.trans s') (Same.free s02 n') ?_ (pick_perm d ps hp2) (pick_srt G M0 hM hp d hs)
    rw [h', List.map_map]
    congr 2
    refine List.map_congr_left fun i hi => ?_
    have := lt i hi
    show (ps.map fun q => V.ref q.1).getD i .non = V.ref (ps.getD i d).1
    rw [List.getD_eq_getElem?_getD, List.getD_eq_getElem?_getD, List.getElem?_map, List.getElem?_eq_getElem this]
    rfl
theorem sc_numbers_in_order : FnScope ["claims", "turn"] ["claims", "turn"] (defScope s_numbers_in_order) := ⟨rfl, rfl, rfl, by decide +kernel, rfl, by decide +kernel, by decide +kernel⟩
theorem ok_numbers_in_order (D : Dfn K mg "numbers_in_order" s_numbers_in_order ["claims", "turn"] f fd) (T : Txt K mg c_WaitError c_NoPiece c_NoEnd) (C_claims_in_order : Cal P w K mg base "claims_in_order" 6 ["claims", "turn"] (spSortd K tT)) : Cal P w K mg base "numbers_in_order" 7 ["claims", "turn"] (spNumbers K tT) := by
  refine D.cal (D.F.ok sc_numbers_in_order (fun vs H Q E h => ?_) (fun cdv A outer s H vs Q E hr h => ?_))
  · obtain ⟨l, ps, t, rfl, _⟩ := h
    rfl
  obtain ⟨l, ps, t, rfl, hC, G, pl, hT, q⟩ := h
  refine ⟨_, (pss_one (ps_ret (pe_comp (N := ["claim"]) (js := []) rfl (CompScope.of rfl rfl rfl rfl rfl (by decide +kernel) rfl rfl rfl rfl) (pi_list (pe_cal C_claims_in_order (hr.mono (by decide)) rfl (pa_cons (pv 0) (pa_cons (pv 1) pa_nil)))) (fun _ _ _ _ _ => ct_nil) (fun _ _ _ _ _ => (pe_ix (r := rIxT K) ix_tup (pv 0) pe_int (fun _ _ => rfl)))))), ?_⟩
  refine ⟨_, rfl, _, rfl, l, ps, t, rfl, hC, G, pl, hT, fun m H1 qs s1 n1 h1 hp hs => ⟨m, rfl, ⟨_, SqL.of h1⟩, ?_⟩⟩
  have mo : (qs.map fun q => V.ref q.1).length = qs.length := List.length_map _
  have lq := hp.length_eq
  refine comp_list (xs := qs.map fun q => V.ref q.1) (fun _ => true) (itm qs fun q => V.int q.2.n) (SqL.of h1) (fun i x Hh Q' hx sh q' => q' Hh (Same.refl _)) ?_ (small1000 (by rw [mo]; omega)) (fun D H2 s2 nD hD => ?_)
  · intro i x Hh Q' hx _ sh q'
    rw [List.getElem?_map] at hx
    cases e : qs[i]? with
    | none => rw [e] at hx; cases hx
    | some y =>
      rw [e] at hx
      cases hx
      obtain ⟨pw, pz, z1, _, _⟩ := (((hC.cl y (hp.mem_iff.mp (List.mem_of_getElem? e))).same s1).same sh).ex
      refine ⟨_, rfl, y.1, _, _, _, rfl, rfl, SqT.of z1, rfl, ?_⟩
      have z := q' Hh (Same.refl _)
      unfold itm at z
      rw [e] at z
      exact z
  rw [filter_all, mo, itm_map] at hD
  refine q D H2 (s1.trans s2) (Same.free s1 nD) ?_
  rw [hD, ← ord_uniq G (hp.map _) hs, List.map_map, List.map_map]
  rfl
theorem sc_numbers_worked : FnScope ["chores", "hands", "turn", "there"] ["chores", "hands", "turn"] (defScope s_numbers_worked) := ⟨rfl, rfl, rfl, by decide +kernel, rfl, by decide +kernel, by decide +kernel⟩
theorem ok_numbers_worked (D : Dfn K mg "numbers_worked" s_numbers_worked ["chores", "hands", "turn"] f fd) (T : Txt K mg c_WaitError c_NoPiece c_NoEnd) (C_numbers_in_order : Cal P w K mg base "numbers_in_order" 7 ["claims", "turn"] (spNumbers K tT)) : Cal P w K mg base "numbers_worked" 8 ["chores", "hands", "turn"] (spWorked K tT) := by
  refine D.cal (D.F.ok sc_numbers_worked (fun vs H Q E h => ?_) (fun cdv A outer s H vs Q E hr h => ?_))
  · obtain ⟨l, xs, h, t, rfl, _⟩ := h
    rfl
  obtain ⟨l, xs, h, t, rfl, hx, h0, hT, q⟩ := h
  refine ⟨_, (pss_cons (ps_setC (i := 3) (N := ["chore", "turn"]) (js := [2]) sc_numbers_worked.nd rfl rfl rfl (CompScope.of rfl rfl rfl rfl rfl (by decide +kernel) rfl rfl rfl rfl) (pi_list (pv 0)) (fun _ _ _ _ _ => (ct_one (PW.pt (pw_and (pt_cmpR op_gt (pe_ix (r := rIxT K) ix_tup (pv 0) pe_int (fun _ _ => rfl)) pe_int (nomark _)) (pw_and1 (pt_cmpR op_le (pe_ix (r := rIxT K) ix_tup (pe_ix (r := rIxT K) ix_tup (pv 0) pe_int (fun _ _ => rfl)) pe_int (fun _ _ => rfl)) (pv 1) (nomark _))))))) (fun _ _ _ _ _ => (pe_ix (r := rIxT K) ix_tup (pv 0) pe_int (fun _ _ => rfl))))
      (pss_one (ps_ret (pe_slice sl_listS (pe_cal C_numbers_in_order (hr.mono (by decide)) rfl (pa_cons (pv 3) (pa_cons (pv 2) pa_nil))) po_none (po_some (pv 1)))))), ?_⟩
  refine ⟨_, rfl, l, rfl, ⟨_, SqL.of hx.chs.at_⟩, ?_⟩
  have ml : (xs.map fun q => V.ref q.1).length = xs.length := List.length_map _
  refine comp_list (xs := xs.map fun q => V.ref q.1) (tak xs (isThere t)) (itm xs fun k => V.ref (kcOf H k.1)) (SqL.of hx.chs.at_) ?_ ?_ (small1000 (by rw [ml]; exact Nat.le_trans hx.len (by decide))) (fun D H2 s2 nD hD => ?_)
  · intro i x Hh Q' hi sh q'
    rw [List.getElem?_map] at hi
    cases e : xs[i]? with
    | none => rw [e] at hi; cases hi
    | some k =>
      rw [e] at hi
      cases hi
      have z := q' Hh (Same.refl _)
      unfold tak isThere at z
      rw [e] at z
      have z : Q' (decide (0 < k.2.2) && decide (k.2.1.came ≤ t)) Hh := z
      obtain ⟨k1, k2⟩ := (hx.chs.ch k (List.mem_of_getElem? e)).kc
      obtain ⟨_, _, c1, _, _⟩ := id k2.ex
      refine ⟨_, rfl, k.1, _, _, _, rfl, rfl, SqT.of (sh _ _ k1), rfl, _, _, rfl, rfl, _, rfl, ?_⟩
      by_cases c1' : 0 < k.2.2
      · refine iteD c1' ?_
        rw [decide_eq_true c1', Bool.true_and] at z
        exact ⟨_, rfl, k.1, _, _, _, rfl, rfl, SqT.of (sh _ _ k1), rfl, _, _, _, _, rfl, rfl, SqT.of (sh _ _ c1), rfl, _, rfl, _, _, rfl, rfl, _, rfl, z⟩
      · refine iteDn c1' ?_
        rw [decide_eq_false c1', Bool.false_and] at z
        exact z
  · intro i x Hh Q' hi _ sh q'
    rw [List.getElem?_map] at hi
    cases e : xs[i]? with
    | none => rw [e] at hi; cases hi
    | some k =>
      rw [e] at hi
      cases hi
      have z := q' Hh (Same.refl _)
      unfold itm at z
      rw [e] at z
      obtain ⟨k1, k2⟩ := (hx.chs.ch k (List.mem_of_getElem? e)).kc
      exact ⟨_, rfl, k.1, _, _, _, rfl, rfl, SqT.of (sh _ _ k1), rfl, z⟩
  rw [ml, tak_fil, ← thereL_refs] at hD
  have hC : IsCs K H2 D (thereL H t xs) := ⟨hD, fun c hc => (thereL_cl hx.chs t hc).same s2⟩
  have G : Good ((thereL H t xs).map (·.2)) := by rw [thereL_cs]; exact hx.good t
  refine ⟨_, rfl, _, rfl, D, thereL H t xs, t, rfl, hC, G, Nat.le_trans (thereL_len _ _ _) hx.len, s2 _ _ hT, fun m H3 s3 n3 h3 => ?_⟩
  rw [thereL_cs] at h3
  refine ⟨_, rfl, _, rfl, m, _, rfl, SqL.of h3, fun p H4 s4 n4 h4 => ?_⟩
  refine q p H4 (s2.trans (s3.trans s4)) (Same.free (s2.trans s3) n4) ?_
  rw [h4]
  unfold workL cutV
  rw [HT.sIx_none, show h = ((h.toNat : Nat) : Int) by omega, HT.sIx_nat, List.length_map, List.drop_zero, Nat.sub_zero, List.map_take, Int.toNat_natCast]
  congr 2
  rw [Nat.min_def]
  split
  · rfl
  · rw [List.take_of_length_le (by rw [List.length_map]; omega), List.take_of_length_le (by rw [List.length_map]; omega)]
theorem sc_chores_behind : FnScope ["chores", "numbers", "lessened"] ["chores", "numbers"] (defScope s_chores_behind) := ⟨rfl, rfl, rfl, by decide +kernel, rfl, by decide +kernel, by decide +kernel⟩
theorem ok_chores_behind (D : Dfn K mg "chores_behind" s_chores_behind ["chores", "numbers"] f fd) (T : Txt K mg c_WaitError c_NoPiece c_NoEnd) : Cal P w K mg base "chores_behind" 1 ["chores", "numbers"] (spBehind K) := by
  refine D.cal (D.F.ok sc_chores_behind (fun vs H Q E h => ?_) (fun cdv A outer s H vs Q E hr h => ?_))
  · obtain ⟨l, m, xs, ws, rfl, _⟩ := h
    rfl
  obtain ⟨l, m, xs, ws, rfl, hx, hm, q⟩ := h
  refine ⟨_, (pss_cons (ps_setC (i := 2) (N := ["chore", "numbers"]) (js := [1]) sc_chores_behind.nd rfl rfl rfl (CompScope.of rfl rfl rfl rfl rfl (by decide +kernel) rfl rfl rfl rfl) (pi_list (pv 0)) (fun _ _ _ _ _ => ct_nil) (fun _ _ _ _ _ => (pe_tupS (pa_cons (pe_ix (r := rIxT K) ix_tup (pv 0) pe_int (fun _ _ => rfl)) (pa_cons (pe_ifExp (pt_cmpR (op_inK (K := K) rfl) (pe_ix (r := rIxT K) ix_tup (pe_ix (r := rIxT K) ix_tup (pv 0) pe_int (fun _ _ => rfl)) pe_int (fun _ _ => rfl)) (pv 1) rfl) (pe_op op_sub (pe_ix (r := rIxT K) ix_tup (pv 0) pe_int (fun _ _ => rfl)) pe_int) (pe_ix (r := rIxT K) ix_tup (pv 0) pe_int (fun _ _ => rfl))) pa_nil)))))
      (pss_one (ps_ret (pe_comp (N := ["chore"]) (js := []) rfl (CompScope.of rfl rfl rfl rfl rfl (by decide +kernel) rfl rfl rfl rfl) (pi_list (pv 2)) (fun _ _ _ _ _ => (ct_one (pt_cmpR op_gt (pe_ix (r := rIxT K) ix_tup (pv 0) pe_int (fun _ _ => rfl)) pe_int (nomark _)))) (fun _ _ _ _ _ => (pv 0)))))), ?_⟩
  refine ⟨_, rfl, l, rfl, ⟨_, SqL.of hx.chs.at_⟩, ?_⟩
  have ml : (xs.map fun q => V.ref q.1).length = xs.length := List.length_map _
  have fl : ∀ ns : List Int, (ns.map V.int).all flatV = true := fun ns => List.all_eq_true.mpr fun y hy => by obtain ⟨i, _, rfl⟩ := List.mem_map.mp hy; rfl
  refine comp_tups (xs := xs.map fun q => V.ref q.1) (tak xs fun _ => true) (itl xs fun k => [V.ref (kcOf H k.1), V.int (lessN ws k.2)]) (SqL.of hx.chs.at_) ?_ ?_ (small1000 (by rw [ml]; exact Nat.le_trans hx.len (by decide))) (fun D H2 bs s2 nD hD eb hb => ?_)
  · intro i x Hh Q' hi sh q'
    have z := q' Hh (Same.refl _)
    unfold tak at z
    rw [List.getElem?_map] at hi
    cases e : xs[i]? with
    | none => rw [e] at hi; cases hi
    | some k =>
      rw [e] at z
      exact z
  · intro i x Hh Q' hi _ sh q'
    rw [List.getElem?_map] at hi
    cases e : xs[i]? with
    | none => rw [e] at hi; cases hi
    | some k =>
      rw [e] at hi
      cases hi
      obtain ⟨k1, k2⟩ := (hx.chs.ch k (List.mem_of_getElem? e)).kc
      obtain ⟨_, _, c1, _, _⟩ := id k2.ex
      have z : ∀ b Hh', Same Hh Hh' → Hh' b = some (.tup [V.ref (kcOf H k.1), V.int (lessN ws k.2)]) → Q' (.ref b) Hh' := fun b H' s' h' => q' b H' s' (by rw [h']; unfold itl; rw [e])
      refine ⟨_, rfl, k.1, _, _, _, rfl, rfl, SqT.of (sh _ _ k1), rfl, ?_⟩
      refine ⟨_, rfl, k.1, _, _, _, rfl, rfl, SqT.of (sh _ _ k1), rfl, _, _, _, _, rfl, rfl, SqT.of (sh _ _ c1), rfl, _, rfl, m, _, rfl, .inl (SqL.of (sh _ _ hm)), rfl, fl _, _, rfl, ?_⟩
      have ei : (if false = true then !inV (.int k.2.1.n) (ws.map V.int) else inV (.int k.2.1.n) (ws.map V.int)) = decide (k.2.1.n ∈ ws) := by
        rw [if_neg Bool.false_ne_true]
        exact inV_mem
      rw [ei]
      by_cases c : k.2.1.n ∈ ws
      · refine iteD c ?_
        refine ⟨_, rfl, k.1, _, _, _, rfl, rfl, SqT.of (sh _ _ k1), rfl, _, _, rfl, rfl, sz 2 (by decide), fun b H3 s3 n3 h3 => z b H3 s3 ?_⟩
        rw [h3]
        unfold lessN
        rw [if_pos c]
      · refine iteDn c ?_
        refine ⟨_, rfl, k.1, _, _, _, rfl, rfl, SqT.of (sh _ _ k1), rfl, sz 2 (by decide), fun b H3 s3 n3 h3 => z b H3 s3 ?_⟩
        rw [h3]
        unfold lessN
        rw [if_neg c]
  rw [ml, tak_fll, fil_true] at eb
  have lb : bs.length = xs.length := by
    have := congrArg List.length eb
    rw [List.length_map, List.length_map] at this
    exact this
  have mb : (bs.map fun b => V.ref b.1).length = bs.length := List.length_map _
  refine ⟨_, rfl, D, rfl, ⟨_, SqL.of hD⟩, ?_⟩
  have parts : ∀ b, b ∈ bs → ∃ (a : Addr) (i : Int), b.2 = [.ref a, .int i] := fun b hb' => by
    have : b.2 ∈ bs.map (·.2) := List.mem_map.mpr ⟨b, hb', rfl⟩
    rw [eb] at this
    obtain ⟨k, _, e⟩ := List.mem_map.mp this
    exact ⟨_, _, e.symm⟩
  refine comp_list (xs := bs.map fun b => V.ref b.1) (tak bs fun b => plV b.2) (itm bs fun b => V.ref b.1) (SqL.of hD) ?_ ?_ (small1000 (by rw [mb, lb]; exact Nat.le_trans hx.len (by decide))) (fun D3 H3 s3 nD3 hD3 => ?_)
  · intro i x Hh Q' hi sh q'
    rw [List.getElem?_map] at hi
    cases e : bs[i]? with
    | none => rw [e] at hi; cases hi
    | some b =>
      rw [e] at hi
      cases hi
      have hbm := List.mem_of_getElem? e
      have z := q' Hh (Same.refl _)
      unfold tak at z
      rw [e] at z
      obtain ⟨a, n, e2⟩ := parts b hbm
      have z : Q' (plV b.2) Hh := z
      rw [e2] at z
      have g := sh _ _ (hb b hbm)
      rw [e2] at g
      exact ⟨_, rfl, b.1, _, _, _, rfl, rfl, SqT.of g, rfl, _, _, rfl, rfl, _, rfl, z⟩
  · intro i x Hh Q' hi _ sh q'
    rw [List.getElem?_map] at hi
    cases e : bs[i]? with
    | none => rw [e] at hi; cases hi
    | some b =>
      rw [e] at hi
      cases hi
      have z := q' Hh (Same.refl _)
      unfold itm at z
      rw [e] at z
      exact ⟨_, rfl, z⟩
  rw [mb, tak_fil] at hD3
  exact q D3 H3 _ (s2.trans s3) (Same.free s2 nD3) ⟨hD3, fun b hb' => s3 _ _ (hb b (List.mem_filter.mp hb').1), bh_eq eb⟩
theorem sc_turn_done : FnScope ["chores", "hands", "turn", "numbers"] ["chores", "hands", "turn"] (defScope s_turn_done) := ⟨rfl, rfl, rfl, by decide +kernel, rfl, by decide +kernel, by decide +kernel⟩
theorem ok_turn_done (D : Dfn K mg "turn_done" s_turn_done ["chores", "hands", "turn"] f fd) (T : Txt K mg c_WaitError c_NoPiece c_NoEnd) (C_numbers_worked : Cal P w K mg base "numbers_worked" 8 ["chores", "hands", "turn"] (spWorked K tT)) (C_chores_behind : Cal P w K mg base "chores_behind" 1 ["chores", "numbers"] (spBehind K)) : Cal P w K mg base "turn_done" 9 ["chores", "hands", "turn"] (spDone K tT) := by
  refine D.cal (D.F.ok sc_turn_done (fun vs H Q E h => ?_) (fun cdv A outer s H vs Q E hr h => ?_))
  · obtain ⟨l, xs, h, t, rfl, _⟩ := h
    rfl
  obtain ⟨l, xs, h, t, rfl, hx, h0, hT, q⟩ := h
  refine ⟨_, (pss_cons (ps_set (i := 3) sc_turn_done.nd rfl (Or.inl rfl) (pe_cal C_numbers_worked (hr.mono (by decide)) rfl (pa_cons (pv 0) (pa_cons (pv 1) (pa_cons (pv 2) pa_nil)))))
      (pss_one (ps_ret (pe_tupS (pa_cons (pv 3) (pa_cons (pe_cal C_chores_behind (hr.mono (by decide)) rfl (pa_cons (pv 0) (pa_cons (pv 3) pa_nil))) pa_nil)))))), ?_⟩
  refine ⟨_, rfl, _, rfl, _, rfl, l, xs, h, t, rfl, hx, h0, hT, fun m H1 s1 n1 h1 => ?_⟩
  refine ⟨_, rfl, _, rfl, _, rfl, l, m, xs, _, rfl, hx.same s1, h1, fun D H2 bs s2 nD B => ?_⟩
  rw [behL_same hx.chs s1] at B
  have mD : m ≠ D := fun z => by rw [← z, h1] at nD; cases nD
  exact ⟨sz 2 (by decide), fun p H3 s3 n3 h3 => q p m D H3 bs (s1.trans (s2.trans s3)) h3 n1 (Same.free s1 nD) mD (s3 _ _ (s2 _ _ h1)) (B.same s3)⟩
theorem sc_chores_taken : FnScope ["chores", "real"] ["chores", "real"] (defScope s_chores_taken) := ⟨rfl, rfl, rfl, by decide +kernel, rfl, by decide +kernel, by decide +kernel⟩
theorem ok_chores_taken (D : Dfn K mg "chores_taken" s_chores_taken ["chores", "real"] f fd) (T : Txt K mg c_WaitError c_NoPiece c_NoEnd) : Cal P w K mg base "chores_taken" 1 ["chores", "real"] spTaken := by
  refine D.cal (D.F.ok sc_chores_taken (fun vs H Q E h => ?_) (fun cdv A outer s H vs Q E hr h => ?_))
  · obtain ⟨l, rfl, _⟩ := h
    rfl
  obtain ⟨l, rfl, q⟩ := h
  refine ⟨_, (pss_cons (ps_if (pt_cmpR op_isN (pv 1) pe_non (nomark _)) (pss_one (ps_ret (pv 0))) pss_nil)
      (pss_one ps_never)), ?_⟩
  exact ⟨_, rfl, rfl, _, rfl, iteT ⟨_, rfl, q⟩⟩
theorem sc_run_of : FnScope ["chores", "hands", "begin", "real", "left", "turn", "rows", "step"] ["chores", "hands", "begin", "real"] (defScope s_run_of) := ⟨rfl, rfl, rfl, by decide +kernel, rfl, by decide +kernel, by decide +kernel⟩
theorem ok_run_of (D : DfnD K mg "run_of" s_run_of ["chores", "hands", "begin", "real"] f fd) (T : Txt K mg c_WaitError c_NoPiece c_NoEnd) (C_chores_behind : Cal P w K mg base "chores_behind" 1 ["chores", "numbers"] (spBehind K)) (C_turn_done : Cal P w K mg base "turn_done" 9 ["chores", "hands", "turn"] (spDone K tT)) (C_chores_taken : Cal P w K mg base "chores_taken" 1 ["chores", "real"] spTaken) : CalD P w K mg base "run_of" 10 ["chores", "hands", "begin", "real"] (spRun K tT) := by
  refine D.cal (D.F.ok sc_run_of (fun vs H Q E h => ?_) (fun cdv A outer s H vs Q E hr h => ?_))
  · obtain ⟨l, xs, h, b, rfl, _⟩ := h
    rfl
  obtain ⟨l, xs, h, b, rfl, hI, h0, b0, b1, hT, q⟩ := h
  refine ⟨_, (pss_cons (ps_set (i := 4) sc_run_of.nd rfl (Or.inl rfl) (pe_cal C_chores_behind (hr.mono (by decide)) rfl (pa_cons (pe_cal C_chores_taken (hr.mono (by decide)) rfl (pa_cons (pv 0) (pa_cons (pv 3) pa_nil))) (pa_cons (pe_lstS pa_nil) pa_nil))))
      (pss_cons (ps_set (i := 5) sc_run_of.nd rfl (Or.inl rfl) (pv 2))
      (pss_cons (ps_set (i := 6) sc_run_of.nd rfl (Or.inl rfl) (pe_lstS pa_nil))
      (pss_cons (ps_while PassesOwn.never (PW.pt (pw_and (pt_cmpR op_gt (pe_callB call_len_seq rfl T.b_len bt_len (pa_cons (pv 4) pa_nil)) pe_int (nomark _)) (pw_and1 (pt_cmpR op_gt (pv 1) pe_int (nomark _))))) (pss_cons (ps_set (i := 7) sc_run_of.nd rfl (Or.inl rfl) (pe_cal C_turn_done (hr.mono (by decide)) rfl (pa_cons (pv 4) (pa_cons (pv 1) (pa_cons (pv 5) pa_nil)))))
      (pss_cons (ps_expr (pe_bm PySem.F.plainAttrs_list PySem.F.slot_list_append PySem.F.type_list_append mt_appendS (pv 6) (pa_cons (pe_tupS (pa_cons (pv 5) (pa_cons (pe_ix ix_tup (pv 7) pe_int (fun _ _ => rfl)) pa_nil))) pa_nil)))
      (pss_cons (ps_set (i := 4) sc_run_of.nd rfl (Or.inl rfl) (pe_ix ix_tup (pv 7) pe_int (fun _ _ => rfl)))
      (pss_one (ps_aug (i := 5) sc_run_of.nd rfl (Or.inl rfl) pe_int ip_add))))))
      (pss_one (ps_ret (pv 6))))))), ?_⟩
  refine ⟨_, rfl, _, rfl, l, rfl, sz 0 (by decide), fun l1 H1 s1 n1 h1 => ?_⟩
  refine ⟨l, l1, xs, [], rfl, hI.same s1, h1, fun D1 H2 bs s2 nD1 B => ?_⟩
  obtain ⟨hI2, e2⟩ := (hI.same s1).next s2 B
  refine ⟨_, rfl, sz 0 (by decide), fun D H3 s3 n3 h3 => ?_⟩
  have s02 := s1.trans s2
  generalize hc0 : bhC [] (xs.map (·.2)) = c0 at e2
  have hn : 0 < h.toNat := by omega
  have s480 : sumC c0 ≤ 480 := by rw [← e2]; exact hI2.sum
  refine while_by (fun σ' H' => ∃ (l' : Addr) (xs' : List (Addr × Cl × Int)) (rs : List (Addr × Addr × Int × List Int)) (n : Nat) (v7 : Option V), σ' = [some (.ref l), some (.int h), some (.int b), some .non, some (.ref l'), some (.int (b + n)), some (.ref D), v7] ∧ Same H2 H' ∧ ChIn K H' l' xs' ∧ xs'.map (·.2) = (runN h.toNat n b c0).2 ∧ (∀ k, k ∈ (runN h.toNat n b c0).2 → 0 < k.2) ∧ IsRun H' D rs ∧ rs.map (fun r => (r.2.2.1, r.2.2.2)) = (runN h.toNat n b c0).1 ∧ (∀ r, r ∈ rs → H2 r.2.1 = none ∧ r.2.1 ≠ D ∧ r.2.2.2.length ≤ 40) ∧ (∀ k, k < n → (runN h.toNat k b c0).2 ≠ []) ∧ n + (sumC (runN h.toNat n b c0).2 + (1001 - (b + n)).toNat) ≤ sumC c0 + (1001 - b).toNat)
    (fun σ' _ => match σ' with | [_, _, _, _, _, some (.int t), _, _] => sumC (runN h.toNat (t - b).toNat b c0).2 + (1001 - t).toNat | _ => 0) ?_ ?_ ?_
  · refine ⟨D1, _, [], 0, _, by rw [show b + ((0 : Nat) : Int) = b by omega]; rfl, s3, hI2.same s3, e2, ?_, ⟨h3, fun r hr => by simp at hr, fun r hr => by simp at hr⟩, rfl, fun r hr => by simp at hr, fun k hk => by omega, by show 0 + (sumC c0 + (1001 - (b + ((0 : Nat) : Int))).toNat) ≤ _; omega⟩
    show ∀ k, k ∈ c0 → 0 < k.2
    rw [← hc0]
    exact fun k hk => bhC_pos hk
  · rintro σ' H4 ⟨l', xs', rs, n, v7, rfl, s4, hI4, ex, pos, R, er, hr, ln, rl⟩
    have mx : (xs'.map fun q => V.ref q.1).length = xs'.length := List.length_map _
    refine ⟨_, rfl, l', _, rfl, .inl (SqL.of hI4.chs.at_), _, _, rfl, rfl, _, rfl, ?_⟩
    rw [mx]
    have lrs : rs.length = n := by
      have := congrArg List.length er
      rw [List.length_map, rwN_len] at this
      exact this
    cases exs : xs' with
    | nil =>
      subst exs
      refine iteDn (by simp) (iteF ?_)
      refine ⟨_, rfl, q D H4 rs (s02.trans s4) (Same.free s02 n3) ⟨R, fun r h' => Same.free s02 (hr r h').1, fun r h' => (hr r h').2.1, n, by rw [hc0]; exact er, by rw [hc0]; exact ex.symm, by rw [hc0]; exact ln⟩ (fun r h' => (hr r h').2.2) (by rw [lrs]; omega)⟩
    | cons x0 xt =>
      rw [← exs]
      have ne : (runN h.toNat n b c0).2 ≠ [] := by rw [← ex, exs]; simp
      refine iteD (by rw [exs, List.length_cons]; omega) ?_
      refine ⟨_, rfl, _, _, rfl, rfl, _, rfl, iteD h0 ?_⟩
      refine ⟨_, rfl, _, rfl, _, rfl, l', xs', h, _, rfl, hI4, by omega, s4 _ _ (s02 _ _ hT), fun p m2 D2 H5 bs2 s5 hp nm nD2 mD hm2 B2 => ?_⟩
      have R5 := R.same s5
      have m2D : m2 ≠ D := fun z => by rw [z, R.at_] at nm; cases nm
      refine ⟨_, rfl, .inl ⟨rfl, _, SqL.of R5.at_⟩, _, rfl, _, rfl, p, _, _, _, rfl, rfl, SqT.of hp, rfl, sz 2 (by decide), fun p6 H6 s6 n6 h6 => ?_⟩
      have R6 := R5.same s6
      refine ⟨D, _, _, rfl, rfl, R6.at_, ?_, fun H7 k7 h7 => ?_⟩
      · rw [List.length_map, lrs]
        have z : (100000 : Nat) ≤ sizeLine := by decide
        omega
      have hp6 := s6 _ _ hp
      have hp7 := k7 _ _ (fun z => by rw [z, R6.at_] at hp6; cases hp6) hp6
      refine ⟨_, rfl, p, _, _, _, rfl, rfl, SqT.of hp7, rfl, ?_⟩
      obtain ⟨hI5, e5⟩ := hI4.next s5 B2
      have D2D : D2 ≠ D := fun z => by rw [z, R.at_] at nD2; cases nD2
      have B6 := B2.same s6
      have B7 : IsBh H7 D2 (behL H4 (workL (b + n) h.toNat xs') xs') bs2 := ⟨k7 _ _ D2D B6.at_, fun c hc => k7 _ _ (fun z => by have := B6.rw c hc; rw [z, R6.at_] at this; cases this) (B6.rw c hc), B6.eq⟩
      have s47 : Same H2 H7 := (s4.trans (s5.trans s6)).but n3 k7
      have hI7 : ChIn K H7 D2 (zipB bs2 (behL H4 (workL (b + n) h.toNat xs') xs')) := by
        have hI6 := hI5.same s6
        exact ⟨hI6.chs.but k7 R6.at_ D2D, hI6.len, hI6.ok, hI6.nd⟩
      have ew : workL (b + n) h.toNat xs' = wkC (b + n) h.toNat (runN h.toNat n b c0).2 := by rw [workL_C, ex]
      have dn := run_down (t := b + n) hn ne pos (by rw [← ex]; exact hI4.cm)
      refine ⟨_, rfl, _, _, rfl, rfl, ⟨D2, zipB bs2 (behL H4 (workL (b + n) h.toNat xs') xs'), rs ++ [(p6, m2, b + n, workL (b + n) h.toNat xs')], n + 1, _, by rw [show b + ((n + 1 : Nat) : Int) = b + n + 1 by omega]; rfl, s47, hI7, ?_, ?_, ?_, ?_, ?_, ?_, ?_⟩, ?_⟩
      · rw [e5, ex, rwN_succ, ew]
      · rw [rwN_succ]
        exact fun k hk => bhC_pos hk
      · exact R6.app k7 h7 h6 (s6 _ _ hm2) m2D fun r h' => (hr r h').2.1
      · rw [List.map_append, er, rwN_succ, ← ew]
        rfl
      · intro r h'
        rcases List.mem_append.mp h' with h' | h'
        · exact hr r h'
        · rw [List.mem_singleton.mp h']
          exact ⟨Same.free s4 nm, m2D, wk_len hI4 _ _⟩
      · intro k hk
        by_cases kn : k = n
        · subst kn
          exact ne
        · exact ln k (by omega)
      · rw [rwN_succ]
        show n + 1 + (sumC (bhC (wkC (b + n) h.toNat (runN h.toNat n b c0).2) (runN h.toNat n b c0).2) + (1001 - (b + ((n + 1 : Nat) : Int))).toNat) ≤ _
        omega
      · show sumC (runN h.toNat (b + n + 1 - b).toNat b c0).2 + (1001 - (b + n + 1)).toNat < sumC (runN h.toNat (b + n - b).toNat b c0).2 + (1001 - (b + n)).toNat
        rw [show (b + (n : Int) + 1 - b).toNat = n + 1 by omega, show (b + (n : Int) - b).toNat = n by omega, rwN_succ]
        exact dn
  · intro σ' H' Q1 Q2 hq h
    obtain ⟨v1, e1, a, ys, e3, hs, i, j, e4, e5, bb, eb, h⟩ := h
    refine ⟨v1, e1, a, ys, e3, hs, i, j, e4, e5, bb, eb, ?_⟩
    by_cases c : bb = true
    · rw [if_pos c] at h ⊢
      obtain ⟨w1, f1, i2, j2, f3, f4, b2, f5, h⟩ := h
      exact ⟨w1, f1, i2, j2, f3, f4, b2, f5, hq _ _ h⟩
    · rw [if_neg c] at h ⊢
      exact hq _ _ h
def spDraw3 : Sp := fun vs H Q _ => ∃ x k m : Int, vs = [.int x, .int k, .int m] ∧ 0 ≤ k ∧ 0 < m ∧ ∀ r : Int, 0 ≤ r → r < m → Q (.int r) H
def spMixN : Sp := fun vs H Q _ => ∃ x k : Int, vs = [.int x, .int k] ∧ 0 ≤ k ∧ ∀ r : Int, 0 ≤ r → Q (.int r) H
def spHeft (K : PySem.W.Frag) : Sp := fun vs H Q _ => ∃ (p : Addr) (c : Cl) (t : Int), vs = [.ref p, .int t] ∧ IsCl K H p c ∧ c.Ok ∧ Q (.int (wM c t 27720)) H
def spLOrd (K : PySem.W.Frag) : Sp := fun vs H Q _ => ∃ (l : Addr) (ps : List (Addr × Cl)) (t : Int), vs = [.ref l, .int t] ∧ IsCs K H l ps ∧ Good (ps.map (·.2)) ∧ ps.length ≤ 40 ∧
  ∀ m H', Same H H' → H m = none → H' m = some (.lst (((ord (ps.map (·.2)) t).map (·.n)).map V.int)) → Q (.ref m) H'
theorem sc_law_mix : FnScope ["_law_cell", "_law_k", "_law_number"] ["_law_cell", "_law_k"] (defScope s_law_mix) := ⟨rfl, rfl, rfl, by decide +kernel, rfl, by decide +kernel, by decide +kernel⟩
theorem ok_law_mix (D : Dfn K mg "_law_mix" s_law_mix ["_law_cell", "_law_k"] f fd) (T : Txt K mg c_WaitError c_NoPiece c_NoEnd) : Cal P w K mg base "_law_mix" 1 ["_law_cell", "_law_k"] spMixN := by
  refine D.cal (D.F.ok sc_law_mix (fun vs H Q E h => ?_) (fun cdv A outer s H vs Q E hr h => ?_))
  · obtain ⟨x, k, rfl, _⟩ := h
    rfl
  obtain ⟨x, k, rfl, k0, q⟩ := h
  refine ⟨_, (pss_cons (ps_set (i := 2) sc_law_mix.nd rfl (Or.inl rfl) (pe_op op_mod (pe_op op_mul (pe_op op_add (pe_op op_mod (pv 0) pe_int) (pe_op op_mul pe_int (pv 1))) pe_int) pe_int))
      (pss_cons (ps_set (i := 2) sc_law_mix.nd rfl (Or.inl rfl) (pe_op op_mod (pe_op op_mul (pv 2) (pv 2)) pe_int))
      (pss_one (ps_ret (pe_op op_mod (pe_op op_add (pe_op op_add (pe_op op_mul (pv 2) (pv 2)) (pe_op op_mul pe_int (pv 2))) (pv 1)) pe_int))))), ?_⟩
  refine ⟨_, rfl, _, _, rfl, rfl, (by show (0 : Int) < _; decide), _, rfl, _, _, rfl, rfl, .inl ⟨by decide, by decide⟩, _, _, rfl, rfl, _, _, rfl, rfl, .inr ⟨by decide, by decide⟩, _, _, rfl, rfl, (by show (0 : Int) < _; decide), ?_⟩
  have m0 := Int.emod_nonneg ((x % 2147483647 + 7919 * k) * 48271) (show (2147483647 : Int) ≠ 0 by decide)
  have m1 := Int.emod_lt_of_pos ((x % 2147483647 + 7919 * k) * 48271) (show (0 : Int) < 2147483647 by decide)
  dsimp only
  generalize (x % 2147483647 + 7919 * k) * 48271 % 2147483647 = n1 at m0 m1 ⊢
  refine ⟨_, rfl, _, rfl, _, _, rfl, rfl, .inl ⟨by omega, by omega⟩, _, _, rfl, rfl, (by show (0 : Int) < _; decide), ?_⟩
  have m2 := Int.emod_nonneg (n1 * n1) (show (2147483629 : Int) ≠ 0 by decide)
  have m3 := Int.emod_lt_of_pos (n1 * n1) (show (0 : Int) < 2147483629 by decide)
  dsimp only
  generalize n1 * n1 % 2147483629 = n2 at m2 m3 ⊢
  refine ⟨_, rfl, _, rfl, _, _, rfl, rfl, .inl ⟨by omega, by omega⟩, _, rfl, _, _, rfl, rfl, .inl ⟨by decide, by decide⟩, _, _, rfl, rfl, _, rfl, _, _, rfl, rfl, _, _, rfl, rfl, (by show (0 : Int) < _; decide), ?_⟩
  exact q _ (Int.emod_nonneg _ (by decide))
theorem sc_law_draw : FnScope ["_law_cell", "_law_k", "_law_many"] ["_law_cell", "_law_k", "_law_many"] (defScope s_law_draw) := ⟨rfl, rfl, rfl, by decide +kernel, rfl, by decide +kernel, by decide +kernel⟩
theorem ok_law_draw (D : Dfn K mg "_law_draw" s_law_draw ["_law_cell", "_law_k", "_law_many"] f fd) (T : Txt K mg c_WaitError c_NoPiece c_NoEnd) (C_law_mix : Cal P w K mg base "_law_mix" 1 ["_law_cell", "_law_k"] spMixN) : Cal P w K mg base "_law_draw" 2 ["_law_cell", "_law_k", "_law_many"] spDraw3 := by
  refine D.cal (D.F.ok sc_law_draw (fun vs H Q E h => ?_) (fun cdv A outer s H vs Q E hr h => ?_))
  · obtain ⟨x, y, m, rfl, _⟩ := h
    rfl
  obtain ⟨x, k, m, rfl, k0, m0, q⟩ := h
  refine ⟨_, (pss_mid (ps_if (PW.pt (pw_and (pt_cmpR op_ge (pv 0) (pe_op op_pow pe_int pe_int) (nomark _)) (pw_and1 (pt_cmpR op_gt (pe_op op_shr (pv 0) (pe_op op_mul pe_int (pv 1))) pe_int (nomark _))))) (pss_one (ps_ret (pe_op op_mod (pe_op op_mod (pe_op op_shr (pv 0) (pe_op op_mul pe_int (pv 1))) (pe_op op_pow pe_int pe_int)) (pv 2)))) pss_nil)
      (pss_one (ps_ret (pe_op op_mod (pe_cal C_law_mix (hr.mono (by decide)) rfl (pa_cons (pv 0) (pa_cons (pv 1) pa_nil))) (pv 2))))), ?_⟩
  refine ⟨fun σ' H' => σ' = [some (.int x), some (.int k), some (.int m)] ∧ H' = H, ?_, ?_⟩
  · refine ⟨_, rfl, _, _, rfl, rfl, ⟨by decide, by decide, by decide⟩, _, _, rfl, rfl, _, rfl, ?_⟩
    refine ite2 (fun c => ?_) (fun c => ?_)
    · refine ⟨_, rfl, _, rfl, _, _, rfl, rfl, .inl ⟨by decide, by decide⟩, _, _, rfl, rfl, by show 0 ≤ 40 * k; omega, _, _, rfl, rfl, _, rfl, ?_⟩
      refine ite2 (fun c2 => ?_) (fun c2 => ?_)
      · refine ⟨_, rfl, _, rfl, _, _, rfl, rfl, .inl ⟨by decide, by decide⟩, _, _, rfl, rfl, by show 0 ≤ 40 * k; omega, _, _, rfl, rfl, ⟨by decide, by decide, by decide⟩, _, _, rfl, rfl, (by show (0 : Int) < _; decide), _, rfl, _, _, rfl, rfl, m0, ?_⟩
        exact q _ (Int.emod_nonneg _ (by omega)) (Int.emod_lt_of_pos _ m0)
      · exact ⟨rfl, rfl⟩
    · exact ⟨rfl, rfl⟩
  · rintro σ' H' ⟨rfl, rfl⟩
    exact ⟨_, rfl, _, rfl, x, _, rfl, k0, fun r r0 => ⟨_, rfl, _, _, rfl, rfl, m0, q _ (Int.emod_nonneg _ (by omega)) (Int.emod_lt_of_pos _ m0)⟩⟩
theorem sc_law_weight : FnScope ["_law_cell", "_law_k", "_law_top", "_law_bottom"] ["_law_cell", "_law_k"] (defScope s_law_weight) := ⟨rfl, rfl, rfl, by decide +kernel, rfl, by decide +kernel, by decide +kernel⟩
theorem ok_law_weight (D : Dfn K mg "_law_weight" s_law_weight ["_law_cell", "_law_k"] f fd) (T : Txt K mg c_WaitError c_NoPiece c_NoEnd) (C_law_mix : Cal P w K mg base "_law_mix" 1 ["_law_cell", "_law_k"] spMixN) (C_law_draw : Cal P w K mg base "_law_draw" 2 ["_law_cell", "_law_k", "_law_many"] spDraw3) : Cal P w K mg base "_law_weight" 3 ["_law_cell", "_law_k"] spWeight := by
  refine D.cal (D.F.ok sc_law_weight (fun vs H Q E h => ?_) (fun cdv A outer s H vs Q E hr h => ?_))
  · obtain ⟨x, k, rfl, _⟩ := h
    rfl
  obtain ⟨x, k, rfl, k0, q⟩ := h
  refine ⟨_, (pss_cons (ps_set (i := 2) sc_law_weight.nd rfl (Or.inl rfl) (pe_ix ix_list (pe_lstS (pai (pai_cons pe_int (pai_cons pe_int (pai_cons pe_int (pai_cons (pe_op op_add (pe_op op_pow pe_int pe_int) pe_int) pai_nil)))))) (pe_cal C_law_draw (hr.mono (by decide)) rfl (pa_cons (pv 0) (pa_cons (pe_op op_add (pv 1) pe_int) (pa_cons pe_int pa_nil)))) (fun _ _ => rfl)))
      (pss_cons (ps_set (i := 3) sc_law_weight.nd rfl (Or.inl rfl) (pe_ix ix_list (pe_lstS (pa_cons pe_int (pa_cons pe_int (pa_cons pe_int pa_nil)))) (pe_op op_mod (pe_cal C_law_mix (hr.mono (by decide)) rfl (pa_cons (pv 0) (pa_cons (pv 1) pa_nil))) pe_int) (fun _ _ => rfl)))
      (pss_one (ps_ret (pe_tupS (pa_cons (pe_cal C_law_draw (hr.mono (by decide)) rfl (pa_cons (pv 0) (pa_cons (pv 1) (pa_cons (pv 2) pa_nil)))) (pa_cons (pe_op op_add pe_int (pe_cal C_law_draw (hr.mono (by decide)) rfl (pa_cons (pv 0) (pa_cons (pe_op op_add (pv 1) pe_int) (pa_cons (pv 3) pa_nil))))) pa_nil))))))), ?_⟩
  refine ⟨_, _, rfl, rfl, ⟨by decide, by decide, by decide⟩, _, _, rfl, rfl, sz 4 (by decide), fun l1 H1 s1 n1 h1 => ⟨_, rfl, _, rfl, _, _, rfl, rfl, x, _, _, rfl, by show 0 ≤ k + 1; omega, by decide, fun r1 r10 r11 => ?_⟩⟩
  obtain ⟨v1, e1, z1⟩ := at_4 (.int 3) (.int 7) (.int 40) (.int ((10 : Int) ^ (6 : Int).toNat + 1)) r10 r11
  have z1 : ∃ top : Int, v1 = .int top ∧ 0 < top ∧ top ≤ 1000001 := by
    rw [pow6] at z1
    rcases z1 with rfl | rfl | rfl | rfl
    · exact ⟨_, rfl, by decide, by decide⟩
    · exact ⟨_, rfl, by decide, by decide⟩
    · exact ⟨_, rfl, by decide, by decide⟩
    · exact ⟨_, rfl, by decide, by decide⟩
  obtain ⟨top, rfl, t0, t1⟩ := z1
  refine ⟨l1, _, _, _, rfl, rfl, SqL.of h1, e1, ?_⟩
  refine ⟨sz 3 (by decide), fun l2 H2 s2 n2 h2 => ⟨_, rfl, _, rfl, x, k, rfl, k0, fun r2 r20 => ⟨_, _, rfl, rfl, (by show (0 : Int) < _; decide), ?_⟩⟩⟩
  obtain ⟨v2, e2, z2⟩ := at_3 (.int 1) (.int 3) (.int 12) (r := r2 % 3) (by omega) (by omega)
  have z2 : ∃ bot : Int, v2 = .int bot ∧ 0 < bot ∧ bot ≤ 12 := by
    rcases z2 with rfl | rfl | rfl
    · exact ⟨_, rfl, by decide, by decide⟩
    · exact ⟨_, rfl, by decide, by decide⟩
    · exact ⟨_, rfl, by decide, by decide⟩
  obtain ⟨bot, rfl, b0, b1⟩ := z2
  refine ⟨l2, _, _, _, rfl, rfl, SqL.of h2, e2, ?_⟩
  refine ⟨_, rfl, _, rfl, _, rfl, x, k, top, rfl, k0, t0, fun r3 r30 r31 => ⟨_, rfl, _, rfl, _, _, rfl, rfl, _, rfl, x, _, bot, rfl, by show 0 ≤ k + 2; omega, b0, fun r4 r40 r41 => ⟨_, _, rfl, rfl, sz 2 (by decide), fun p H3 s3 n3 h3 => ?_⟩⟩⟩
  exact q p H3 r3 (1 + r4) (s1.trans (s2.trans s3)) ⟨h3, by omega, by omega, by omega, by omega⟩
theorem sc_law_heft : FnScope ["_law_claim", "_law_turn_here", "_law_number", "_law_weight_here", "_law_speed", "_law_came", "_law_begin"] ["_law_claim", "_law_turn_here"] (defScope s_law_heft) := ⟨rfl, rfl, rfl, by decide +kernel, rfl, by decide +kernel, by decide +kernel⟩
theorem ok_law_heft (D : Dfn K mg "_law_heft" s_law_heft ["_law_claim", "_law_turn_here"] f fd) (T : Txt K mg c_WaitError c_NoPiece c_NoEnd) : Cal P w K mg base "_law_heft" 1 ["_law_claim", "_law_turn_here"] (spHeft K) := by
  refine D.cal (D.F.ok sc_law_heft (fun vs H Q E h => ?_) (fun cdv A outer s H vs Q E hr h => ?_))
  · obtain ⟨p, c, t, rfl, _⟩ := h
    rfl
  obtain ⟨p, c, t, rfl, hc, ok, q⟩ := h
  refine ⟨_, (pss_cons (ps_asg (pv 0) (pg_tup rfl (pgs_cons (pg_name (i := 2) sc_law_heft.nd rfl (Or.inl rfl)) (pgs_cons (pg_name (i := 3) sc_law_heft.nd rfl (Or.inl rfl)) (pgs_cons (pg_name (i := 4) sc_law_heft.nd rfl (Or.inl rfl)) (pgs_cons (pg_name (i := 5) sc_law_heft.nd rfl (Or.inl rfl)) pgs_nil))))))
      (pss_cons (ps_set (i := 6) sc_law_heft.nd rfl (Or.inl rfl) (pe_op op_mul (pe_ix ix_tup (pv 3) pe_int (fun _ _ => rfl)) (pe_op op_fdivB pe_int (pe_ix ix_tup (pv 3) pe_int (fun _ _ => rfl)))))
      (pss_one (ps_ret (pe_op op_add (pv 6) (pe_op op_mul (pe_op op_mul (pe_ix ix_tup (pv 4) pe_int (fun _ _ => rfl)) (pe_op op_fdivB pe_int (pe_ix ix_tup (pv 4) pe_int (fun _ _ => rfl)))) (pe_op op_sub (pv 1) (pv 5)))))))), ?_⟩
  obtain ⟨pw, ps, e1, e2, e3⟩ := id hc.ex
  have hw : SqT K H pw [.int c.wt, .int c.wb] := SqT.of e2
  have hs : SqT K H ps [.int c.st, .int c.sb] := SqT.of e3
  have w2 := ok.w2
  have w3 := ok.w3
  have b2 := ok.s2
  have b3 := ok.s3
  have d1 : 27720 / c.wb ≤ 27720 := Int.ediv_le_self _ (by omega)
  have d2 : 0 ≤ 27720 / c.wb := Int.ediv_nonneg (by omega) (by omega)
  have d3 : 27720 / c.sb ≤ 27720 := Int.ediv_le_self _ (by omega)
  have d4 : 0 ≤ 27720 / c.sb := Int.ediv_nonneg (by omega) (by omega)
  have d5 : c.st * (27720 / c.sb) ≤ 1000000 * 27720 := Int.mul_le_mul ok.s1 (by omega) d4 (by decide)
  have d6 : 0 ≤ c.st * (27720 / c.sb) := Int.mul_nonneg ok.s0 d4
  refine ⟨_, rfl, p, _, rfl, SqT.of e1, rfl, _, _, rfl, _, _, rfl, _, _, rfl, _, _, rfl, rfl, ?_⟩
  refine ⟨_, rfl, pw, _, _, _, rfl, rfl, hw, rfl, _, rfl, pw, _, _, _, rfl, rfl, hw, rfl, _, _, rfl, rfl, ⟨w2, by omega⟩, _, _, rfl, rfl, .inr ⟨by omega, by omega⟩, ?_⟩
  refine ⟨_, rfl, _, rfl, ps, _, _, _, rfl, rfl, hs, rfl, _, rfl, ps, _, _, _, rfl, rfl, hs, rfl, _, _, rfl, rfl, ⟨b2, by omega⟩, _, _, rfl, rfl, .inr ⟨by omega, by omega⟩, _, rfl, _, rfl, _, _, rfl, rfl, _, _, rfl, rfl, .inl ⟨by omega, by omega⟩, _, _, rfl, rfl, ?_⟩
  have e : c.wt * (27720 / c.wb) + c.st * (27720 / c.sb) * (t - c.came) = wM c t 27720 := by
    unfold wM
    rw [Int.mul_comm (t - c.came)]
  show Q (V.int (c.wt * (27720 / c.wb) + c.st * (27720 / c.sb) * (t - c.came))) H
  rw [e]
  exact q
theorem sc_law_order : FnScope ["_law_claims", "_law_turn_here", "_law_keys"] ["_law_claims", "_law_turn_here"] (defScope s_law_order) := ⟨rfl, rfl, rfl, by decide +kernel, rfl, by decide +kernel, by decide +kernel⟩
theorem ok_law_order (D : Dfn K mg "_law_order" s_law_order ["_law_claims", "_law_turn_here"] f fd) (T : Txt K mg c_WaitError c_NoPiece c_NoEnd) (C_law_heft : Cal P w K mg base "_law_heft" 1 ["_law_claim", "_law_turn_here"] (spHeft K)) : Cal P w K mg base "_law_order" 2 ["_law_claims", "_law_turn_here"] (spLOrd K) := by
  refine D.cal (D.F.ok sc_law_order (fun vs H Q E h => ?_) (fun cdv A outer s H vs Q E hr h => ?_))
  · obtain ⟨l, ps, t, rfl, _⟩ := h
    rfl
  obtain ⟨l, ps, t, rfl, hC, G, pl, q⟩ := h
  refine ⟨_, (pss_cons (ps_setC (i := 2) (N := ["_law_claim", "_law_turn_here"]) (js := [1]) sc_law_order.nd rfl rfl rfl (CompScope.of rfl rfl rfl rfl rfl (by decide +kernel) rfl rfl rfl rfl) (pi_list (pv 0)) (fun _ _ _ _ _ => ct_nil) (fun _ _ _ _ _ => (pe_tupS (pa_cons (pe_op op_sub pe_int (pe_cal C_law_heft (hr.mono (by decide)) rfl (pa_cons (pv 0) (pa_cons (pv 1) pa_nil)))) (pa_cons (pe_ix (r := rIxT K) ix_tup (pv 0) pe_int (fun _ _ => rfl)) (pa_cons (pe_ix (r := rIxT K) ix_tup (pv 0) pe_int (fun _ _ => rfl)) pa_nil))))))
      (pss_one (ps_ret (pe_comp (N := ["_law_key"]) (js := []) rfl (CompScope.of rfl rfl rfl rfl rfl (by decide +kernel) rfl rfl rfl rfl) (pi_list (pe_callB call_sortT rfl T.b_sorted bt_sorted (pa_cons (pv 2) pa_nil))) (fun _ _ _ _ _ => ct_nil) (fun _ _ _ _ _ => (pe_ix (r := rIxT K) ix_tup (pv 0) pe_int (fun _ _ => rfl))))))), ?_⟩
  have ml : (ps.map fun q => V.ref q.1).length = ps.length := List.length_map _
  have hM : ∀ c ∈ ps.map (·.2), c.wb ∣ 27720 ∧ c.sb ∣ 27720 := fun c hc => by
    have o := G.ok c hc
    exact ⟨dvd_27720 o.w2 o.w3, dvd_27720 o.s2 o.s3⟩
  refine ⟨_, rfl, l, rfl, ⟨_, SqL.of hC.at_⟩, ?_⟩
  refine comp_tups (xs := ps.map fun q => V.ref q.1) (tak ps fun _ => true) (itl ps fun q => (kM q.2 t 27720).map V.int) (SqL.of hC.at_) ?_ ?_ (small1000 (by rw [ml]; omega)) (fun D1 H1 bs s1 nD1 hD1 eb hb => ?_)
  · intro j x Hh Q' hxj sh q'
    have z := q' Hh (Same.refl _)
    unfold tak at z
    rw [List.getElem?_map] at hxj
    cases ek : ps[j]? with
    | none => rw [ek] at hxj; cases hxj
    | some k =>
      rw [ek] at z
      exact z
  · intro i x Hh Q' hx _ sh q'
    rw [List.getElem?_map] at hx
    cases e : ps[i]? with
    | none => rw [e] at hx; cases hx
    | some y =>
      rw [e] at hx
      cases hx
      have hy := List.mem_of_getElem? e
      have hcy := (hC.cl y hy).same sh
      obtain ⟨pw, pz, z1, _, _⟩ := id hcy.ex
      refine ⟨_, rfl, _, rfl, y.1, y.2, t, rfl, hcy, G.ok y.2 (List.mem_map.mpr ⟨y, hy, rfl⟩), ?_⟩
      refine ⟨_, _, rfl, rfl, _, rfl, y.1, _, _, _, rfl, rfl, SqT.of z1, rfl, _, rfl, y.1, _, _, _, rfl, rfl, SqT.of z1, rfl, sz 3 (by decide), fun r H4 s4 n4 h4 => q' r H4 s4 ?_⟩
      rw [h4]
      unfold itl
      rw [e]
      show some (HO.tup [V.int (0 - wM y.2 t 27720), _, _]) = some (HO.tup [V.int (-wM y.2 t 27720), _, _])
      rw [Int.zero_sub]
  rw [ml, tak_fll, fil_true] at eb
  have lb : bs.length = ps.length := by
    have := congrArg List.length eb
    rw [List.length_map, List.length_map] at this
    exact this
  have mb : (bs.map fun b => V.ref b.1).length = (ps.map (·.2)).length := by rw [List.length_map, List.length_map, lb]
  have M0 : (0 : Int) < 27720 := by decide
  have at_b : ∀ (i : Nat) b, bs[i]? = some b → H1 b.1 = some (.tup ((kf_at (ps.map (·.2)) t 27720 i).map V.int)) := fun i b hi => by
    rw [hb b (List.mem_of_getElem? hi)]
    have := congrArg (·[i]?) eb
    simp only [List.getElem?_map, hi, Option.map_some] at this
    unfold kf_at
    cases ep : ps[i]? with
    | none => rw [ep] at this; cases this
    | some y =>
      rw [ep] at this
      rw [List.getElem?_map, ep, Option.some.inj this]
      rfl
  refine ⟨_, rfl, D1, _, kf_at (ps.map (·.2)) t 27720, 3, rfl, SqL.of hD1, by rw [mb, List.length_map]; omega, kf_len _ t 27720, by decide, by rw [mb]; exact kf_tot G M0 hM, fun i v hv => ?_, fun D2 H2 p s2 n2 h2 hp hs => ?_⟩
  · rw [List.getElem?_map] at hv
    cases e : bs[i]? with
    | none => rw [e] at hv; cases hv
    | some b =>
      rw [e] at hv
      cases hv
      exact ⟨b.1, rfl, at_b i b e⟩
  rw [mb] at hp
  have d : Addr × Cl := (0, ⟨0, 0, 1, 0, 1, 0⟩)
  have hp2 : p.Perm (List.range ps.length) := by simpa using hp
  have lt : ∀ i ∈ p, i < ps.length := fun i hi => List.mem_range.mp (hp2.mem_iff.mp hi)
  have srt := pick_srt G M0 hM hp d hs
  have prm : ((p.map fun i => ps.getD i d).map (·.2)).Perm (ps.map (·.2)) := (pick_perm d ps hp2).map _
  refine ⟨D2, rfl, ⟨_, SqL.of h2⟩, ?_⟩
  have lp : (p.map fun i => (bs.map fun b => V.ref b.1).getD i .non).length = p.length := List.length_map _
  have pl2 : p.length = ps.length := by simpa using hp2.length_eq
  refine comp_list (xs := p.map fun i => (bs.map fun b => V.ref b.1).getD i .non) (fun _ => true) (itm p fun i => V.int (ps.getD i d).2.n) (SqL.of h2) (fun i x Hh Q' hx sh q' => q' Hh (Same.refl _)) ?_ (small1000 (by rw [lp]; omega)) (fun D H3 s3 nD hD => ?_)
  · intro i x Hh Q' hx _ sh q'
    rw [List.getElem?_map] at hx
    cases e : p[i]? with
    | none => rw [e] at hx; cases hx
    | some j =>
      rw [e] at hx
      have jl := lt j (List.mem_of_getElem? e)
      have jb : bs[j]? = some (bs[j]'(by omega)) := List.getElem?_eq_getElem (by omega)
      have hx : V.ref (bs[j]'(by omega)).1 = x := by
        have hx : (bs.map fun b => V.ref b.1).getD j .non = x := Option.some.inj hx
        rw [List.getD_eq_getElem?_getD, List.getElem?_map, jb] at hx
        exact hx
      subst hx
      have tj := sh _ _ (s2 _ _ (at_b j _ jb))
      have kj : kf_at (ps.map (·.2)) t 27720 j = kM (ps.getD j d).2 t 27720 := by
        unfold kf_at
        rw [List.getElem?_map, List.getD_eq_getElem?_getD, List.getElem?_eq_getElem jl]
        rfl
      rw [kj] at tj
      refine ⟨_, rfl, _, _, _, _, rfl, rfl, SqT.of tj, rfl, ?_⟩
      have z := q' Hh (Same.refl _)
      unfold itm at z
      rw [e] at z
      exact z
  rw [filter_all, lp, itm_map] at hD
  refine q D H3 (s1.trans (s2.trans s3)) (Same.free (s1.trans s2) nD) ?_
  rw [hD, ← ord_uniq G prm srt, List.map_map, List.map_map, List.map_map]
  rfl
def spLTurn (K : PySem.W.Frag) : Sp := fun vs H Q _ => ∃ (l : Addr) (xs : List (Addr × Cl × Int)) (h t : Int), vs = [.ref l, .int h, .int t] ∧ ChIn K H l xs ∧ 0 ≤ h ∧
  ∀ p m D H' bs, Same H H' → H' p = some (.tup [.ref m, .ref D]) → H m = none → H D = none → m ≠ D → H' m = some (.lst ((workL t h.toNat xs).map V.int)) → IsBh H' D (behL H (workL t h.toNat xs) xs) bs → Q (.ref p) H'
theorem sc_law_turn : FnScope ["_law_rows", "_law_hands", "_law_turn_here", "_law_there", "_law_numbers", "_law_behind"] ["_law_rows", "_law_hands", "_law_turn_here"] (defScope s_law_turn) := ⟨rfl, rfl, rfl, by decide +kernel, rfl, by decide +kernel, by decide +kernel⟩
theorem ok_law_turn (D : Dfn K mg "_law_turn" s_law_turn ["_law_rows", "_law_hands", "_law_turn_here"] f fd) (T : Txt K mg c_WaitError c_NoPiece c_NoEnd) (C_law_order : Cal P w K mg base "_law_order" 2 ["_law_claims", "_law_turn_here"] (spLOrd K)) : Cal P w K mg base "_law_turn" 3 ["_law_rows", "_law_hands", "_law_turn_here"] (spLTurn K) := by
  refine D.cal (D.F.ok sc_law_turn (fun vs H Q E h => ?_) (fun cdv A outer s H vs Q E hr h => ?_))
  · obtain ⟨l, xs, h, t, rfl, _⟩ := h
    rfl
  obtain ⟨l, xs, h, t, rfl, hx, h0, q⟩ := h
  refine ⟨_, (pss_cons (ps_setCT (i := 3) (nk := 2) (g := (gTup K 2 (gCons (gName 0) (gCons (gName 1) gNil)))) (N := ["_law_claim", "_law_left", "_law_turn_here"]) (js := [2]) sc_law_turn.nd rfl rfl rfl (CompScopeN.of rfl rfl rfl rfl rfl (by decide +kernel) rfl rfl rfl) (fun _ _ _ _ _ hn => (pg_tup rfl (pgs_cons (hn 0 _ _ rfl (by decide)) (pgs_cons (hn 1 _ _ rfl (by decide)) pgs_nil)))) (pi_list (pv 0)) (fun _ _ _ _ _ => (ct_one (PW.pt (pw_and (pt_cmpR op_le (pe_ix (r := rIxT K) ix_tup (pv 0) pe_int (fun _ _ => rfl)) (pv 2) (nomark _)) (pw_and1 (pt_cmpR op_gt (pv 1) pe_int (nomark _))))))) (fun _ _ _ _ _ => (pv 0)))
      (pss_cons (ps_set (i := 4) sc_law_turn.nd rfl (Or.inr rfl) (pe_slice sl_listS (pe_cal C_law_order (hr.mono (by decide)) rfl (pa_cons (pv 3) (pa_cons (pv 2) pa_nil))) po_none (po_some (pv 1))))
      (pss_cons (ps_setCT (i := 5) (nk := 2) (g := (gTup K 2 (gCons (gName 0) (gCons (gName 1) gNil)))) (N := ["_law_claim", "_law_left", "_law_numbers"]) (js := [4]) sc_law_turn.nd rfl rfl rfl (CompScopeN.of rfl rfl rfl rfl rfl (by decide +kernel) rfl rfl rfl) (fun _ _ _ _ _ hn => (pg_tup rfl (pgs_cons (hn 0 _ _ rfl (by decide)) (pgs_cons (hn 1 _ _ rfl (by decide)) pgs_nil)))) (pi_list (pv 0)) (fun _ _ _ _ _ => ct_nil) (fun _ _ _ _ _ => (pe_tupS (pa_cons (pv 0) (pa_cons (pe_op op_sub (pv 1) (pe_callTy call_int1 rfl T.b_int bt_int (pa_cons (pe_cmpR (op_inK (K := K) rfl) (pe_ix (r := rIxT K) ix_tup (pv 0) pe_int (fun _ _ => rfl)) (pv 2) (by with_unfolding_all rfl)) pa_nil))) pa_nil)))))
      (pss_one (ps_ret (pe_tupS (pa_cons (pv 4) (pa_cons (pe_comp (N := ["_law_row"]) (js := []) rfl (CompScope.of rfl rfl rfl rfl rfl (by decide +kernel) rfl rfl rfl rfl) (pi_list (pv 5)) (fun _ _ _ _ _ => (ct_one (pt_cmpR op_gt (pe_ix (r := rIxT K) ix_tup (pv 0) pe_int (fun _ _ => rfl)) pe_int (nomark _)))) (fun _ _ _ _ _ => (pv 0))) pa_nil)))))))), ?_⟩
  refine ⟨_, rfl, l, rfl, ⟨_, SqL.of hx.chs.at_⟩, ?_⟩
  have ml : (xs.map fun q => V.ref q.1).length = xs.length := List.length_map _
  have fl : ∀ ns : List Int, (ns.map V.int).all flatV = true := fun ns => List.all_eq_true.mpr fun y hy => by obtain ⟨i, _, rfl⟩ := List.mem_map.mp hy; rfl
  refine comp_listG (xs := xs.map fun q => V.ref q.1) (sts 2 xs fun k => [.ref (kcOf H k.1), .int k.2.2]) (tak xs (isThere t)) (itm xs fun k => V.ref (kcOf H k.1)) (SqL.of hx.chs.at_) (sts_len fun _ => rfl) ?_ ?_ ?_ (small1000 (by rw [ml]; exact Nat.le_trans hx.len (by decide))) (fun D1 H2 s2 nD1 hD1 => ?_)
  · intro j x Hh os R' hxj sh ol r'
    obtain ⟨o1, o2, rfl⟩ := len2 ol
    rw [List.getElem?_map] at hxj
    cases ek : xs[j]? with
    | none => rw [ek] at hxj; cases hxj
    | some k =>
      rw [ek] at hxj
      cases hxj
      unfold sts at r'
      rw [ek] at r'
      exact ⟨k.1, _, rfl, SqT.of (sh _ _ (hx.chs.ch k (List.mem_of_getElem? ek)).kc.1), rfl, _, _, rfl, _, _, rfl, rfl, r'⟩
  · intro i x Hh Q' hi sh q'
    rw [List.getElem?_map] at hi
    cases e : xs[i]? with
    | none => rw [e] at hi; cases hi
    | some k =>
      rw [e] at hi
      cases hi
      have z := q' Hh (Same.refl _)
      unfold tak isThere at z
      unfold sts
      rw [e] at z ⊢
      have z : Q' (decide (0 < k.2.2) && decide (k.2.1.came ≤ t)) Hh := z
      obtain ⟨k1, k2⟩ := (hx.chs.ch k (List.mem_of_getElem? e)).kc
      obtain ⟨_, _, c1, _, _⟩ := id k2.ex
      rw [Bool.and_comm] at z
      refine ⟨_, rfl, _, _, _, _, rfl, rfl, SqT.of (sh _ _ c1), rfl, _, rfl, _, _, rfl, rfl, _, rfl, ?_⟩
      by_cases c1' : k.2.1.came ≤ t
      · refine iteD c1' ?_
        rw [decide_eq_true c1', Bool.true_and] at z
        exact ⟨_, rfl, _, _, rfl, rfl, _, rfl, z⟩
      · refine iteDn c1' ?_
        rw [decide_eq_false c1', Bool.false_and] at z
        exact z
  · intro i x Hh Q' hi _ sh q'
    rw [List.getElem?_map] at hi
    cases e : xs[i]? with
    | none => rw [e] at hi; cases hi
    | some k =>
      rw [e] at hi
      cases hi
      have z := q' Hh (Same.refl _)
      unfold itm at z
      unfold sts
      rw [e] at z ⊢
      exact ⟨_, rfl, z⟩
  rw [ml, tak_fil, ← thereL_refs] at hD1
  have hC : IsCs K H2 D1 (thereL H t xs) := ⟨hD1, fun c hc => (thereL_cl hx.chs t hc).same s2⟩
  have G : Good ((thereL H t xs).map (·.2)) := by rw [thereL_cs]; exact hx.good t
  refine ⟨_, rfl, _, rfl, D1, thereL H t xs, t, rfl, hC, G, Nat.le_trans (thereL_len _ _ _) hx.len, fun m3 H3 s3 n3 h3 => ?_⟩
  rw [thereL_cs] at h3
  refine ⟨_, rfl, _, rfl, m3, _, rfl, SqL.of h3, fun m H4 s4 nm h4 => ?_⟩
  have hm : H4 m = some (.lst ((workL t h.toNat xs).map V.int)) := by
    rw [h4]
    unfold workL cutV
    rw [HT.sIx_none, show h = ((h.toNat : Nat) : Int) by omega, HT.sIx_nat, List.length_map, List.drop_zero, Nat.sub_zero, List.map_take, Int.toNat_natCast]
    congr 2
    rw [Nat.min_def]
    split
    · rfl
    · rw [List.take_of_length_le (by rw [List.length_map]; omega), List.take_of_length_le (by rw [List.length_map]; omega)]
  have s04 := s2.trans (s3.trans s4)
  have nm0 : H m = none := Same.free (s2.trans s3) nm
  have eB : behL H (workL t h.toNat xs) xs = behL H4 (workL t h.toNat xs) xs := (behL_same hx.chs s04 _).symm
  rw [eB] at q
  generalize workL t h.toNat xs = ws at hm q
  clear eB h4 hC G hD1
  have hx := hx.same s04
  refine ⟨_, rfl, l, rfl, ⟨_, SqL.of hx.chs.at_⟩, ?_⟩
  refine comp_tupsG (xs := xs.map fun q => V.ref q.1) (sts 2 xs fun k => [.ref (kcOf H4 k.1), .int k.2.2]) (tak xs fun _ => true) (itl xs fun k => [V.ref (kcOf H4 k.1), V.int (lessN ws k.2)]) (SqL.of hx.chs.at_) (sts_len fun _ => rfl) ?_ ?_ ?_ (small1000 (by rw [ml]; exact Nat.le_trans hx.len (by decide))) (fun D H5 bs s5 nD hD eb hb => ?_)
  · intro j x Hh os R' hxj sh ol r'
    obtain ⟨o1, o2, rfl⟩ := len2 ol
    rw [List.getElem?_map] at hxj
    cases ek : xs[j]? with
    | none => rw [ek] at hxj; cases hxj
    | some k =>
      rw [ek] at hxj
      cases hxj
      unfold sts at r'
      rw [ek] at r'
      exact ⟨k.1, _, rfl, SqT.of (sh _ _ (hx.chs.ch k (List.mem_of_getElem? ek)).kc.1), rfl, _, _, rfl, _, _, rfl, rfl, r'⟩
  · intro i x Hh Q' hi sh q'
    have z := q' Hh (Same.refl _)
    unfold tak at z
    rw [List.getElem?_map] at hi
    cases e : xs[i]? with
    | none => rw [e] at hi; cases hi
    | some k =>
      rw [e] at z
      exact z
  · intro i x Hh Q' hi _ sh q'
    rw [List.getElem?_map] at hi
    cases e : xs[i]? with
    | none => rw [e] at hi; cases hi
    | some k =>
      rw [e] at hi
      cases hi
      obtain ⟨k1, k2⟩ := (hx.chs.ch k (List.mem_of_getElem? e)).kc
      obtain ⟨_, _, c1, _, _⟩ := id k2.ex
      unfold sts
      rw [e]
      refine ⟨_, rfl, _, rfl, _, rfl, _, _, _, _, rfl, rfl, SqT.of (sh _ _ c1), rfl, _, rfl, m, _, rfl, .inl (SqL.of (sh _ _ hm)), rfl, fl _, .inr ⟨_, rfl, _, _, rfl, rfl, sz 2 (by decide), fun b H3 s3 n3 h3 => q' b H3 s3 ?_⟩⟩
      rw [h3]
      unfold itl
      rw [e]
      have ei : (if false = true then !inV (.int k.2.1.n) (ws.map V.int) else inV (.int k.2.1.n) (ws.map V.int)) = decide (k.2.1.n ∈ ws) := by
        rw [if_neg Bool.false_ne_true]
        exact inV_mem
      have en : k.2.2 - (if (if false = true then !inV (.int k.2.1.n) (ws.map V.int) else inV (.int k.2.1.n) (ws.map V.int)) = true then 1 else 0) = lessN ws k.2 := by
        rw [ei]
        unfold lessN
        by_cases c : k.2.1.n ∈ ws
        · rw [decide_eq_true c, if_pos rfl, if_pos c]
        · rw [decide_eq_false c, if_neg Bool.false_ne_true, if_neg c]
          omega
      exact congrArg (fun z => some (HO.tup [V.ref (kcOf H4 k.1), V.int z])) en
  rw [ml, tak_fll, fil_true] at eb
  have lb : bs.length = xs.length := by
    have := congrArg List.length eb
    rw [List.length_map, List.length_map] at this
    exact this
  have mb : (bs.map fun b => V.ref b.1).length = bs.length := List.length_map _
  refine ⟨_, rfl, _, rfl, D, rfl, ⟨_, SqL.of hD⟩, ?_⟩
  have parts : ∀ b, b ∈ bs → ∃ (a : Addr) (i : Int), b.2 = [.ref a, .int i] := fun b hb' => by
    have : b.2 ∈ bs.map (·.2) := List.mem_map.mpr ⟨b, hb', rfl⟩
    rw [eb] at this
    obtain ⟨k, _, e⟩ := List.mem_map.mp this
    exact ⟨_, _, e.symm⟩
  refine comp_list (xs := bs.map fun b => V.ref b.1) (tak bs fun b => plV b.2) (itm bs fun b => V.ref b.1) (SqL.of hD) ?_ ?_ (small1000 (by rw [mb, lb]; exact Nat.le_trans hx.len (by decide))) (fun D6 H6 s6 nD6 hD6 => ?_)
  · intro i x Hh Q' hi sh q'
    rw [List.getElem?_map] at hi
    cases e : bs[i]? with
    | none => rw [e] at hi; cases hi
    | some b =>
      rw [e] at hi
      cases hi
      have hbm := List.mem_of_getElem? e
      have z := q' Hh (Same.refl _)
      unfold tak at z
      rw [e] at z
      obtain ⟨a, n, e2⟩ := parts b hbm
      have z : Q' (plV b.2) Hh := z
      rw [e2] at z
      have g := sh _ _ (hb b hbm)
      rw [e2] at g
      exact ⟨_, rfl, b.1, _, _, _, rfl, rfl, SqT.of g, rfl, _, _, rfl, rfl, _, rfl, z⟩
  · intro i x Hh Q' hi _ sh q'
    rw [List.getElem?_map] at hi
    cases e : bs[i]? with
    | none => rw [e] at hi; cases hi
    | some b =>
      rw [e] at hi
      cases hi
      have z := q' Hh (Same.refl _)
      unfold itm at z
      rw [e] at z
      exact ⟨_, rfl, z⟩
  rw [mb, tak_fil] at hD6
  refine ⟨sz 2 (by decide), fun p H7 s7 n7 h7 => ?_⟩
  have B : IsBh H6 D6 (behL H4 ws xs) _ := ⟨hD6, fun b hb' => s6 _ _ (hb b (List.mem_filter.mp hb').1), bh_eq eb⟩
  have nD6' : H4 D6 = none := Same.free s5 nD6
  have mD : m ≠ D6 := fun z => by rw [← z, hm] at nD6'; cases nD6'
  exact q p m D6 H7 _ (s04.trans (s5.trans (s6.trans s7))) h7 nm0 (Same.free s04 nD6') mD (s7 _ _ (s6 _ _ (s5 _ _ hm))) (B.same s7)
def spLRun (K : PySem.W.Frag) : Sp := fun vs H Q _ => ∃ (l : Addr) (xs : List (Addr × Cl × Int)) (h b : Int), vs = [.ref l, .int h, .int b] ∧ ChIn K H l xs ∧ 0 < h ∧ 0 ≤ b ∧ b ≤ 1000 ∧
  ∀ D H' rs, Same H H' → H D = none → RunOf H H' h.toNat b (xs.map (·.2)) D rs → (∀ r, r ∈ rs → r.2.2.2.length ≤ 40) → rs.length ≤ 1481 → Q (.ref D) H'
theorem sc_law_run : FnScope ["_law_chores_here", "_law_hands", "_law_begin", "_law_left", "_law_rows", "_law_numbers"] ["_law_chores_here", "_law_hands", "_law_begin"] (defScope s_law_run) := ⟨rfl, rfl, rfl, by decide +kernel, rfl, by decide +kernel, by decide +kernel⟩
theorem ok_law_run (D : Dfn K mg "_law_run" s_law_run ["_law_chores_here", "_law_hands", "_law_begin"] f fd) (T : Txt K mg c_WaitError c_NoPiece c_NoEnd) (C_law_turn : Cal P w K mg base "_law_turn" 3 ["_law_rows", "_law_hands", "_law_turn_here"] (spLTurn K)) : Cal P w K mg base "_law_run" 4 ["_law_chores_here", "_law_hands", "_law_begin"] (spLRun K) := by
  refine D.cal (D.F.ok sc_law_run (fun vs H Q E h => ?_) (fun cdv A outer s H vs Q E hr h => ?_))
  · obtain ⟨l, xs, h, b, rfl, _⟩ := h
    rfl
  obtain ⟨l, xs, h, b, rfl, hI, h0, b0, b1, q⟩ := h
  refine ⟨_, (pss_cons (ps_setC (i := 3) (N := ["_law_chore"]) (js := []) sc_law_run.nd rfl rfl rfl (CompScope.of rfl rfl rfl rfl rfl (by decide +kernel) rfl rfl rfl rfl) (pi_list (pv 0)) (fun _ _ _ _ _ => (ct_one (pt_cmpR op_gt (pe_ix (r := rIxT K) ix_tup (pv 0) pe_int (fun _ _ => rfl)) pe_int (nomark _)))) (fun _ _ _ _ _ => (pv 0)))
      (pss_cons (ps_set (i := 4) sc_law_run.nd rfl (Or.inl rfl) (pe_lstS pa_nil))
      (pss_cons (ps_while PassesOwn.never (pt_cmpR (op_neE hr.units0) (pv 3) (pe_lstS pa_nil) (nomark _)) (pss_cons (ps_asg (pe_cal C_law_turn (hr.mono (by decide)) rfl (pa_cons (pv 3) (pa_cons (pv 1) (pa_cons (pe_op op_add (pv 2) (pe_callB call_len_seq rfl T.b_len bt_len (pa_cons (pv 4) pa_nil))) pa_nil)))) (pg_tup rfl (pgs_cons (pg_name (i := 5) sc_law_run.nd rfl (Or.inl rfl)) (pgs_cons (pg_name (i := 3) sc_law_run.nd rfl (Or.inl rfl)) pgs_nil))))
      (pss_one (ps_expr (pe_bm PySem.F.plainAttrs_list PySem.F.slot_list_append PySem.F.type_list_append mt_appendS (pv 4) (pa_cons (pe_tupS (pa_cons (pe_op op_add (pv 2) (pe_callB call_len_seq rfl T.b_len bt_len (pa_cons (pv 4) pa_nil))) (pa_cons (pv 5) pa_nil))) pa_nil))))))
      (pss_one (ps_ret (pv 4)))))), ?_⟩
  have ml : (xs.map fun q => V.ref q.1).length = xs.length := List.length_map _
  refine ⟨_, rfl, l, rfl, ⟨_, SqL.of hI.chs.at_⟩, ?_⟩
  refine comp_list (xs := xs.map fun q => V.ref q.1) (tak xs fun k => decide (0 < k.2.2)) (itm xs fun k => V.ref k.1) (SqL.of hI.chs.at_) ?_ ?_ (small1000 (by rw [ml]; exact Nat.le_trans hI.len (by decide))) (fun D1 H1 s1 nD1 hD1 => ?_)
  · intro i x Hh Q' hi sh q'
    rw [List.getElem?_map] at hi
    cases e : xs[i]? with
    | none => rw [e] at hi; cases hi
    | some k =>
      rw [e] at hi
      cases hi
      have z := q' Hh (Same.refl _)
      unfold tak at z
      rw [e] at z
      obtain ⟨k1, _⟩ := (hI.chs.ch k (List.mem_of_getElem? e)).kc
      exact ⟨_, rfl, k.1, _, _, _, rfl, rfl, SqT.of (sh _ _ k1), rfl, _, _, rfl, rfl, _, rfl, z⟩
  · intro i x Hh Q' hi _ sh q'
    rw [List.getElem?_map] at hi
    cases e : xs[i]? with
    | none => rw [e] at hi; cases hi
    | some k =>
      rw [e] at hi
      cases hi
      have z := q' Hh (Same.refl _)
      unfold itm at z
      rw [e] at z
      exact ⟨_, rfl, z⟩
  rw [ml, tak_fil] at hD1
  have hI1 : ChIn K H1 D1 (xs.filter fun k => decide (0 < k.2.2)) := ⟨⟨hD1, fun q hq => (hI.chs.ch q (List.mem_filter.mp hq).1).same s1⟩, Nat.le_trans (List.length_filter_le _ _) hI.len, fun q hq => hI.ok q (List.mem_filter.mp hq).1, hI.nd.sublist (List.filter_sublist.map _)⟩
  have e2 : (xs.filter fun k => decide (0 < k.2.2)).map (·.2) = bhC [] (xs.map (·.2)) := by
    rw [bhC_nil, List.filter_map]
    rfl
  generalize hc0 : bhC [] (xs.map (·.2)) = c0 at e2
  have hn : 0 < h.toNat := by omega
  have s480 : sumC c0 ≤ 480 := by rw [← e2]; exact hI1.sum
  refine ⟨sz 0 (by decide), fun D H2 s2 nD h2 => ?_⟩
  have hI2 := hI1.same s2
  have D1D : D1 ≠ D := fun z => by rw [z, nD] at hD1; cases hD1
  have n1 : H D = none := Same.free s1 nD
  have s02 := s1.trans s2
  refine while_by (fun σ' H' => ∃ (l' : Addr) (xs' : List (Addr × Cl × Int)) (rs : List (Addr × Addr × Int × List Int)) (n : Nat) (v5 : Option V), σ' = [some (.ref l), some (.int h), some (.int b), some (.ref l'), some (.ref D), v5] ∧ Same H H' ∧ ChIn K H' l' xs' ∧ l' ≠ D ∧ xs'.map (·.2) = (runN h.toNat n b c0).2 ∧ (∀ k, k ∈ (runN h.toNat n b c0).2 → 0 < k.2) ∧ IsRun H' D rs ∧ rs.map (fun r => (r.2.2.1, r.2.2.2)) = (runN h.toNat n b c0).1 ∧ (∀ r, r ∈ rs → H r.2.1 = none ∧ r.2.1 ≠ D ∧ r.2.2.2.length ≤ 40) ∧ (∀ k, k < n → (runN h.toNat k b c0).2 ≠ []) ∧ n + (sumC (runN h.toNat n b c0).2 + (1001 - (b + n)).toNat) ≤ sumC c0 + (1001 - b).toNat)
    (fun _ H' => match H' D with | some (.lst ys) => sumC (runN h.toNat ys.length b c0).2 + (1001 - (b + (ys.length : Int))).toNat | _ => 0) ?_ ?_ ?_
  · refine ⟨D1, _, [], 0, _, rfl, s02, hI2, D1D, e2, ?_, ⟨h2, fun r hr => by simp at hr, fun r hr => by simp at hr⟩, rfl, fun r hr => by simp at hr, fun k hk => by omega, by show 0 + (sumC c0 + (1001 - (b + ((0 : Nat) : Int))).toNat) ≤ _; omega⟩
    show ∀ k, k ∈ c0 → 0 < k.2
    rw [← hc0]
    exact fun k hk => bhC_pos hk
  · rintro σ' H4 ⟨l', xs', rs, n, v5, rfl, s4, hI4, lD, ex, pos, R, er, hr, ln, rl⟩
    have mr : (rs.map fun r => V.ref r.1).length = rs.length := List.length_map _
    have lrs : rs.length = n := by
      have := congrArg List.length er
      rw [List.length_map, rwN_len] at this
      exact this
    refine ⟨_, rfl, sz 0 (by decide), fun l5 H5 s5 n5 h5 => ⟨l', l5, _, rfl, rfl, SqL.of (s5 _ _ hI4.chs.at_), SqL.of h5, _, rfl, ?_⟩⟩
    cases exs : xs' with
    | nil =>
      subst exs
      refine iteF ?_
      refine ⟨_, rfl, q D H5 rs (s4.trans s5) n1 ⟨R.same s5, fun r h' => (hr r h').1, fun r h' => (hr r h').2.1, n, by rw [hc0]; exact er, by rw [hc0]; exact ex.symm, by rw [hc0]; exact ln⟩ (fun r h' => (hr r h').2.2) (by rw [lrs]; omega)⟩
    | cons x0 xt =>
      refine iteT ?_
      have ne : (runN h.toNat n b c0).2 ≠ [] := by rw [← ex, exs]; simp
      have R5 := R.same s5
      have hI5 := hI4.same s5
      refine ⟨_, rfl, _, rfl, _, rfl, _, rfl, D, _, rfl, .inl (SqL.of R5.at_), _, _, rfl, rfl, ?_⟩
      rw [mr, lrs]
      refine ⟨l', xs', h, _, rfl, hI5, by omega, fun p6 m6 D6 H6 bs6 s6 hp6 n6 nD6 mD6 h6 B6 => ?_⟩
      have R6 := R5.same s6
      have m6D : m6 ≠ D := fun z => by rw [z, R5.at_] at n6; cases n6
      have D6D : D6 ≠ D := fun z => by rw [z, R5.at_] at nD6; cases nD6
      refine ⟨p6, _, rfl, SqT.of hp6, rfl, _, _, rfl, _, _, rfl, rfl, ?_⟩
      refine ⟨_, rfl, .inl ⟨rfl, _, SqL.of R6.at_⟩, _, rfl, _, rfl, D, _, rfl, .inl (SqL.of R6.at_), _, _, rfl, rfl, ?_⟩
      rw [mr, lrs]
      refine ⟨_, rfl, sz 2 (by decide), fun p7 H7 s7 n7 h7 => ⟨D, _, _, rfl, rfl, (R6.same s7).at_, ?_, fun H8 k8 h8 => ?_⟩⟩
      · rw [mr, lrs]
        have z : (100000 : Nat) ≤ sizeLine := by decide
        omega
      have R7 := R6.same s7
      obtain ⟨hI6, e6⟩ := hI5.next s6 B6
      have hI7 := hI6.same s7
      have hI8 : ChIn K H8 D6 (zipB bs6 (behL H5 (workL (b + n) h.toNat xs') xs')) := ⟨hI7.chs.but k8 R7.at_ D6D, hI7.len, hI7.ok, hI7.nd⟩
      have s48 : Same H H8 := (s4.trans (s5.trans (s6.trans s7))).but n1 k8
      have ew : workL (b + n) h.toNat xs' = wkC (b + n) h.toNat (runN h.toNat n b c0).2 := by rw [workL_C, ex]
      have dn := run_down (t := b + n) hn ne pos (by rw [← ex]; exact hI4.cm)
      have R8 : IsRun H8 D (rs ++ [(p7, m6, b + n, workL (b + n) h.toNat xs')]) := R7.app k8 h8 h7 (s7 _ _ h6) m6D fun r h' => (hr r h').2.1
      refine ⟨⟨D6, zipB bs6 (behL H5 (workL (b + n) h.toNat xs') xs'), rs ++ [(p7, m6, b + n, workL (b + n) h.toNat xs')], n + 1, _, rfl, s48, hI8, D6D, ?_, ?_, R8, ?_, ?_, ?_, ?_⟩, ?_⟩
      · rw [e6, ex, rwN_succ, ew]
      · rw [rwN_succ]
        exact fun k hk => bhC_pos hk
      · rw [List.map_append, er, rwN_succ, ← ew]
        rfl
      · intro r h'
        rcases List.mem_append.mp h' with h' | h'
        · exact hr r h'
        · rw [List.mem_singleton.mp h']
          exact ⟨Same.free (s4.trans s5) n6, m6D, wk_len hI4 _ _⟩
      · intro k hk
        by_cases kn : k = n
        · subst kn
          exact ne
        · exact ln k (by omega)
      · rw [rwN_succ]
        show n + 1 + (sumC (bhC (wkC (b + n) h.toNat (runN h.toNat n b c0).2) (runN h.toNat n b c0).2) + (1001 - (b + ((n + 1 : Nat) : Int))).toNat) ≤ _
        omega
      · have l9 : ((rs ++ [(p7, m6, b + n, workL (b + n) h.toNat xs')]).map fun r => V.ref r.1).length = n + 1 := by
          rw [List.length_map, List.length_append, lrs]
          rfl
        rw [R8.at_, R.at_]
        show sumC (runN h.toNat ((rs ++ [(p7, m6, b + n, workL (b + n) h.toNat xs')]).map fun r => V.ref r.1).length b c0).2 + (1001 - (b + (((rs ++ [(p7, m6, b + n, workL (b + n) h.toNat xs')]).map fun r => V.ref r.1).length : Int))).toNat < sumC (runN h.toNat (rs.map fun r => V.ref r.1).length b c0).2 + (1001 - (b + ((rs.map fun r => V.ref r.1).length : Int))).toNat
        rw [l9, mr, lrs, rwN_succ]
        show sumC (bhC (wkC (b + n) h.toNat (runN h.toNat n b c0).2) (runN h.toNat n b c0).2) + (1001 - (b + ((n + 1 : Nat) : Int))).toNat < _
        rw [show b + ((n + 1 : Nat) : Int) = b + n + 1 by omega]
        exact dn
  · intro σ' H' Q1 Q2 hq h
    obtain ⟨v1, e1, e2, h⟩ := h
    refine ⟨v1, e1, e2, fun p H2 s n hp => ?_⟩
    obtain ⟨a, b, xs, f1, f2, f3, f4, k, f5, h⟩ := h p H2 s n hp
    exact ⟨a, b, xs, f1, f2, f3, f4, k, f5, hq _ _ h⟩
abbrev rowsOf (rs : List (Addr × Addr × Int × List Int)) : List (Int × List Int) := rs.map fun r => (r.2.2.1, r.2.2.2)
def spEnds (K : PySem.W.Frag) : Sp := fun vs H Q _ => ∃ (D : Addr) (rs : List (Addr × Addr × Int × List Int)), vs = [.ref D] ∧ IsRun H D rs ∧ (∀ r, r ∈ rs → r.2.2.2.length ≤ 40) ∧ rs.length ≤ 1481 ∧
  ∀ d H', Same H H' → H d = none → H' d = some (.dK (dI (lastI (rowsOf rs) []))) → Q (.ref d) H'
theorem ends_len {rs : List (Addr × Addr × Int × List Int)} {i j : Nat} {t : Int} {ws : List Int} (h1 : ∀ r, r ∈ rs → r.2.2.2.length ≤ 40) (h2 : rs.length ≤ 1481) (h3 : ws.length ≤ 40) : (dI (lastR t (ws.take j) (lastI (rowsOf (rs.take i)) []))).length < sizeLine := by
  have a := lastI_len (B := 40) (rowsOf (rs.take i)) [] fun r hr => by
    obtain ⟨q, hq, rfl⟩ := List.mem_map.mp hr
    exact h1 q (List.mem_of_mem_take hq)
  have b := lastR_len t (ws.take j) (lastI (rowsOf (rs.take i)) [])
  rw [List.length_map, List.length_take] at a
  rw [List.length_take] at b
  rw [dI_len]
  have z : (100000 : Nat) ≤ sizeLine := by decide
  rw [List.length_nil, Nat.zero_add] at a
  omega
theorem take_at {α : Type} {xs : List α} {i : Nat} {x : α} (h : xs[i]? = some x) : xs.take (i + 1) = xs.take i ++ [x] := by
  rw [List.take_succ, h]
  rfl
theorem sc_last_turns : FnScope ["rows", "turns", "row", "number"] ["rows"] (defScope s_last_turns) := ⟨rfl, rfl, rfl, by decide +kernel, rfl, by decide +kernel, by decide +kernel⟩
theorem ok_last_turns (D : Dfn K mg "last_turns" s_last_turns ["rows"] f fd) (T : Txt K mg c_WaitError c_NoPiece c_NoEnd) : Cal P w K mg base "last_turns" 1 ["rows"] (spEnds K) := by
  refine D.cal (D.F.ok sc_last_turns (fun vs H Q E h => ?_) (fun cdv A outer s H vs Q E hr h => ?_))
  · obtain ⟨D, rs, rfl, _⟩ := h
    rfl
  obtain ⟨D, rs, rfl, R, l40, l14, q⟩ := h
  refine ⟨_, (pss_cons (ps_set (i := 1) sc_last_turns.nd rfl (Or.inl rfl) pe_dnewS)
      (pss_cons (ps_for PassesOwn.never rfl (pi_list (pv 0)) (pg_name (i := 2) sc_last_turns.nd rfl (Or.inl rfl)) (pss_one (ps_for PassesOwn.never rfl (pi_list (pe_ix ix_tup (pv 2) pe_int (fun _ _ => rfl))) (pg_name (i := 3) sc_last_turns.nd rfl (Or.inl rfl)) (pss_one (ps_dput hr.units1 (pv 1) (pv 3) (pe_ix ix_tup (pv 2) pe_int (fun _ _ => rfl)) rfl)))))
      (pss_one (ps_ret (pv 1))))), ?_⟩
  refine fun d H1 s1 n1 h1 => ?_
  have mr : (rs.map fun r => V.ref r.1).length = rs.length := List.length_map _
  refine ⟨_, rfl, D, rfl, ⟨_, SqL.of (s1 _ _ R.at_)⟩, ?_⟩
  refine for_list (K := K) (a := D) (xs := rs.map fun r => V.ref r.1) (fun i σ H' => ∃ v2 v3 : Option V, σ = [some (.ref D), some (.ref d), v2, v3] ∧ Same H H' ∧ H' d = some (.dK (dI (lastI (rowsOf (rs.take i)) []))))
    ⟨_, _, rfl, s1, h1⟩ (fun i σ H' _ ⟨_, _, _, s, _⟩ => SqL.of (s _ _ R.at_)) ?_ ?_
  · rintro i x σ H2 hi ⟨v2, v3, rfl, s2, h2⟩
    rw [List.getElem?_map] at hi
    cases e : rs[i]? with
    | none => rw [e] at hi; cases hi
    | some r =>
      rw [e] at hi
      cases hi
      have hr := List.mem_of_getElem? e
      have er : rowsOf (rs.take (i + 1)) = rowsOf (rs.take i) ++ [(r.2.2.1, r.2.2.2)] := by
        rw [take_at e]
        exact List.map_append
      have mw : (r.2.2.2.map V.int).length = r.2.2.2.length := List.length_map _
      refine ⟨_, rfl, r.1, _, _, _, rfl, rfl, SqT.of (s2 _ _ (R.row r hr)), rfl, r.2.1, rfl, ⟨_, SqL.of (s2 _ _ (R.num r hr))⟩, ?_⟩
      refine for_list (K := K) (a := r.2.1) (xs := r.2.2.2.map V.int) (fun j σ H' => ∃ v3 : Option V, σ = [some (.ref D), some (.ref d), some (.ref r.1), v3] ∧ Same H H' ∧ H' d = some (.dK (dI (lastR r.2.2.1 (r.2.2.2.take j) (lastI (rowsOf (rs.take i)) [])))))
        ⟨_, rfl, s2, h2⟩ (fun j σ H' _ ⟨_, _, s, _⟩ => SqL.of (s _ _ (R.num r hr))) ?_ ?_
      · rintro j y σ H3 hj ⟨v3, rfl, s3, h3⟩
        rw [List.getElem?_map] at hj
        cases ej : r.2.2.2[j]? with
        | none => rw [ej] at hj; cases hj
        | some n =>
          rw [ej] at hj
          cases hj
          refine ⟨_, rfl, r.1, _, _, _, rfl, rfl, SqT.of (s3 _ _ (R.row r hr)), rfl, _, rfl, _, rfl, d, _, rfl, DPut.k (k := .inl n) h3 (ends_len l40 l14 (l40 r hr)), ?_⟩
          refine ⟨_, rfl, s3.but n1 (But.upd _ _ _), ?_⟩
          rw [upd_same, dI_put, take_at ej, lastR_snoc]
      · rintro σ H3 ⟨v3, rfl, s3, h3⟩
        rw [mw, List.take_length] at h3
        refine ⟨_, _, rfl, s3, ?_⟩
        rw [h3, er, lastI_snoc]
  · rintro σ H2 ⟨v2, v3, rfl, s2, h2⟩
    rw [mr, List.take_length] at h2
    exact ⟨_, rfl, q d H2 s2 n1 h2⟩
theorem sc_law_ends : FnScope ["_law_rows", "_law_found", "_law_turn_here", "_law_numbers", "_law_number"] ["_law_rows"] (defScope s_law_ends) := ⟨rfl, rfl, rfl, by decide +kernel, rfl, by decide +kernel, by decide +kernel⟩
theorem ok_law_ends (D : Dfn K mg "_law_ends" s_law_ends ["_law_rows"] f fd) (T : Txt K mg c_WaitError c_NoPiece c_NoEnd) : Cal P w K mg base "_law_ends" 1 ["_law_rows"] (spEnds K) := by
  refine D.cal (D.F.ok sc_law_ends (fun vs H Q E h => ?_) (fun cdv A outer s H vs Q E hr h => ?_))
  · obtain ⟨D, rs, rfl, _⟩ := h
    rfl
  obtain ⟨D, rs, rfl, R, l40, l14, q⟩ := h
  refine ⟨_, (pss_cons (ps_set (i := 1) sc_law_ends.nd rfl (Or.inl rfl) pe_dnewS)
      (pss_cons (ps_for PassesOwn.never rfl (pi_list (pv 0)) (pg_tup rfl (pgs_cons (pg_name (i := 2) sc_law_ends.nd rfl (Or.inl rfl)) (pgs_cons (pg_name (i := 3) sc_law_ends.nd rfl (Or.inl rfl)) pgs_nil))) (pss_one (ps_for PassesOwn.never rfl (pi_list (pv 3)) (pg_name (i := 4) sc_law_ends.nd rfl (Or.inl rfl)) (pss_one (ps_dput hr.units1 (pv 1) (pv 4) (pv 2) rfl)))))
      (pss_one (ps_ret (pv 1))))), ?_⟩
  refine fun d H1 s1 n1 h1 => ?_
  have mr : (rs.map fun r => V.ref r.1).length = rs.length := List.length_map _
  refine ⟨_, rfl, D, rfl, ⟨_, SqL.of (s1 _ _ R.at_)⟩, ?_⟩
  refine for_list (K := K) (a := D) (xs := rs.map fun r => V.ref r.1) (fun i σ H' => ∃ v2 v3 v4 : Option V, σ = [some (.ref D), some (.ref d), v2, v3, v4] ∧ Same H H' ∧ H' d = some (.dK (dI (lastI (rowsOf (rs.take i)) []))))
    ⟨_, _, _, rfl, s1, h1⟩ (fun i σ H' _ ⟨_, _, _, _, s, _⟩ => SqL.of (s _ _ R.at_)) ?_ ?_
  · rintro i x σ H2 hi ⟨v2, v3, v4, rfl, s2, h2⟩
    rw [List.getElem?_map] at hi
    cases e : rs[i]? with
    | none => rw [e] at hi; cases hi
    | some r =>
      rw [e] at hi
      cases hi
      have hr := List.mem_of_getElem? e
      have er : rowsOf (rs.take (i + 1)) = rowsOf (rs.take i) ++ [(r.2.2.1, r.2.2.2)] := by
        rw [take_at e]
        exact List.map_append
      have mw : (r.2.2.2.map V.int).length = r.2.2.2.length := List.length_map _
      refine ⟨r.1, _, rfl, SqT.of (s2 _ _ (R.row r hr)), rfl, _, _, rfl, _, _, rfl, rfl, ?_⟩
      refine ⟨_, rfl, r.2.1, rfl, ⟨_, SqL.of (s2 _ _ (R.num r hr))⟩, ?_⟩
      refine for_list (K := K) (a := r.2.1) (xs := r.2.2.2.map V.int) (fun j σ H' => ∃ v4 : Option V, σ = [some (.ref D), some (.ref d), some (.int r.2.2.1), some (.ref r.2.1), v4] ∧ Same H H' ∧ H' d = some (.dK (dI (lastR r.2.2.1 (r.2.2.2.take j) (lastI (rowsOf (rs.take i)) [])))))
        ⟨_, rfl, s2, h2⟩ (fun j σ H' _ ⟨_, _, s, _⟩ => SqL.of (s _ _ (R.num r hr))) ?_ ?_
      · rintro j y σ H3 hj ⟨v4, rfl, s3, h3⟩
        rw [List.getElem?_map] at hj
        cases ej : r.2.2.2[j]? with
        | none => rw [ej] at hj; cases hj
        | some n =>
          rw [ej] at hj
          cases hj
          refine ⟨_, rfl, _, rfl, _, rfl, d, _, rfl, DPut.k (k := .inl n) h3 (ends_len l40 l14 (l40 r hr)), ?_⟩
          refine ⟨_, rfl, s3.but n1 (But.upd _ _ _), ?_⟩
          rw [upd_same, dI_put, take_at ej, lastR_snoc]
      · rintro σ H3 ⟨v4, rfl, s3, h3⟩
        rw [mw, List.take_length] at h3
        refine ⟨_, _, _, rfl, s3, ?_⟩
        rw [h3, er, lastI_snoc]
  · rintro σ H2 ⟨v2, v3, v4, rfl, s2, h2⟩
    rw [mr, List.take_length] at h2
    exact ⟨_, rfl, q d H2 s2 n1 h2⟩
def spLCh (K : PySem.W.Frag) : Sp := fun vs H Q _ => ∃ x m b : Int, vs = [.int x, .int m, .int b] ∧ 0 ≤ m ∧ m ≤ 12 ∧ 0 ≤ b ∧ b ≤ 100 ∧ ∀ l xs H', Same H H' → H l = none → ChIn K H' l xs → (∀ q, q ∈ xs → q.2.1.n < 97) → Q (.ref l) H'
theorem sc_law_chores : FnScope ["_law_cell", "_law_many", "_law_begin", "_law_first", "_law_step", "_law_chores_here", "_law_k", "_law_number", "_law_own", "_law_came", "_law_claim"] ["_law_cell", "_law_many", "_law_begin"] (defScope s_law_chores) := ⟨rfl, rfl, rfl, by decide +kernel, rfl, by decide +kernel, by decide +kernel⟩
theorem ok_law_chores (D : Dfn K mg "_law_chores" s_law_chores ["_law_cell", "_law_many", "_law_begin"] f fd) (T : Txt K mg c_WaitError c_NoPiece c_NoEnd) (C_law_mix : Cal P w K mg base "_law_mix" 1 ["_law_cell", "_law_k"] spMixN) (C_law_draw : Cal P w K mg base "_law_draw" 2 ["_law_cell", "_law_k", "_law_many"] spDraw3) (C_law_weight : Cal P w K mg base "_law_weight" 3 ["_law_cell", "_law_k"] spWeight) : Cal P w K mg base "_law_chores" 4 ["_law_cell", "_law_many", "_law_begin"] (spLCh K) := by
  refine D.cal (D.F.ok sc_law_chores (fun vs H Q E h => ?_) (fun cdv A outer s H vs Q E hr h => ?_))
  · obtain ⟨x, m, b, rfl, _⟩ := h
    rfl
  obtain ⟨x, m, b, rfl, m0, m1, b0, b1, q⟩ := h
  refine ⟨_, (pss_cons (ps_set (i := 3) sc_law_chores.nd rfl (Or.inl rfl) (pe_cal C_law_draw (hr.mono (by decide)) rfl (pa_cons (pv 0) (pa_cons pe_int (pa_cons pe_int pa_nil)))))
      (pss_cons (ps_set (i := 4) sc_law_chores.nd rfl (Or.inl rfl) (pe_ix ix_list (pe_lstS (pai (pai_cons pe_int (pai_cons pe_int (pai_cons pe_int (pai_cons pe_int pai_nil)))))) (pe_cal C_law_draw (hr.mono (by decide)) rfl (pa_cons (pv 0) (pa_cons pe_int (pa_cons pe_int pa_nil)))) (fun _ _ => rfl)))
      (pss_cons (ps_set (i := 5) sc_law_chores.nd rfl (Or.inl rfl) (pe_lstS pa_nil))
      (pss_cons (ps_for PassesOwn.never rfl (pi_range1 rfl T.b_range (pa_cons (pv 1) pa_nil)) (pg_name (i := 6) sc_law_chores.nd rfl (Or.inl rfl)) (pss_cons (ps_set (i := 7) sc_law_chores.nd rfl (Or.inl rfl) (pe_op op_mod (pe_op op_add (pv 3) (pe_op op_mul (pv 4) (pv 6))) pe_int))
      (pss_cons (ps_set (i := 8) sc_law_chores.nd rfl (Or.inl rfl) (pe_cal C_law_mix (hr.mono (by decide)) rfl (pa_cons (pv 0) (pa_cons (pe_op op_add pe_int (pv 6)) pa_nil))))
      (pss_mid (ps_if (pt_cmpR op_lt (pv 6) pe_int (nomark _)) (pss_one (ps_set (i := 8) sc_law_chores.nd rfl (Or.inl rfl) (pe_cal C_law_mix (hr.mono (by decide)) rfl (pa_cons (pe_op op_add (pv 8) (pe_cal C_law_draw (hr.mono (by decide)) rfl (pa_cons (pv 0) (pa_cons (pe_op op_add pe_int (pv 6)) (pa_cons (pe_op op_pow pe_int pe_int) pa_nil))))) (pa_cons (pv 6) pa_nil))))) pss_nil)
      (pss_cons (ps_set (i := 9) sc_law_chores.nd rfl (Or.inl rfl) (pe_callB (call_max2 rfl) rfl T.b_max bt_max (pa_cons pe_int (pa_cons (pe_op op_sub (pv 2) (pe_cal C_law_draw (hr.mono (by decide)) rfl (pa_cons (pv 8) (pa_cons pe_int (pa_cons (pe_ix ix_list (pe_lstS (pa_cons pe_int (pa_cons pe_int (pa_cons (pe_op op_add (pv 2) pe_int) pa_nil)))) (pe_cal C_law_draw (hr.mono (by decide)) rfl (pa_cons (pv 8) (pa_cons pe_int (pa_cons pe_int pa_nil)))) (fun _ _ => rfl)) pa_nil))))) pa_nil))))
      (pss_mid (ps_if (pt_cmpR op_eq (pe_cal C_law_draw (hr.mono (by decide)) rfl (pa_cons (pv 8) (pa_cons pe_int (pa_cons pe_int pa_nil)))) pe_int (nomark _)) (pss_one (ps_set (i := 9) sc_law_chores.nd rfl (Or.inl rfl) (pe_op op_add (pv 2) (pe_cal C_law_draw (hr.mono (by decide)) rfl (pa_cons (pv 8) (pa_cons pe_int (pa_cons (pe_ix ix_list (pe_lstS (pa_cons pe_int (pa_cons pe_int (pa_cons pe_int pa_nil)))) (pe_cal C_law_draw (hr.mono (by decide)) rfl (pa_cons (pv 8) (pa_cons pe_int (pa_cons pe_int pa_nil)))) (fun _ _ => rfl)) pa_nil))))))) pss_nil)
      (pss_cons (ps_set (i := 10) sc_law_chores.nd rfl (Or.inl rfl) (pe_tupS (pai (pai_cons (pv 7) (pai_cons (pe_cal C_law_weight (hr.mono (by decide)) rfl (pa_cons (pv 8) (pa_cons pe_int pa_nil))) (pai_cons (pe_cal C_law_weight (hr.mono (by decide)) rfl (pa_cons (pv 8) (pa_cons pe_int pa_nil))) (pai_cons (pv 9) pai_nil)))))))
      (pss_one (ps_expr (pe_bm PySem.F.plainAttrs_list PySem.F.slot_list_append PySem.F.type_list_append mt_appendS (pv 5) (pa_cons (pe_tupS (pa_cons (pv 10) (pa_cons (pe_cal C_law_draw (hr.mono (by decide)) rfl (pa_cons (pv 8) (pa_cons pe_int (pa_cons pe_int pa_nil)))) pa_nil))) pa_nil)))))))))))
      (pss_one (ps_ret (pv 5))))))), ?_⟩
  refine ⟨_, rfl, x, _, _, rfl, by decide, by decide, fun fi f0 f1 => ?_⟩
  refine ⟨sz 4 (by decide), fun l1 H1 s1 n1 h1 => ⟨_, rfl, x, _, _, rfl, by decide, by decide, fun r1 r10 r11 => ?_⟩⟩
  obtain ⟨v1, e1, z1⟩ := at_4 (.int 1) (.int 2) (.int 7) (.int 89) r10 r11
  have z1 : ∃ st : Int, v1 = .int st ∧ (st = 1 ∨ st = 2 ∨ st = 7 ∨ st = 89) := by
    rcases z1 with rfl | rfl | rfl | rfl
    · exact ⟨_, rfl, .inl rfl⟩
    · exact ⟨_, rfl, .inr (.inl rfl)⟩
    · exact ⟨_, rfl, .inr (.inr (.inl rfl))⟩
    · exact ⟨_, rfl, .inr (.inr (.inr rfl))⟩
  obtain ⟨st, rfl, hst⟩ := z1
  refine ⟨l1, _, _, _, rfl, rfl, SqL.of h1, e1, ?_⟩
  refine ⟨sz 0 (by decide), fun lc H2 s2 n2 h2 => ?_⟩
  have nlc : H lc = none := Same.free s1 n2
  refine ⟨_, rfl, _, rfl, by omega, by omega, ?_⟩
  refine for_range (fun i σ H5 => ∃ (v6 v7 v8 v9 v10 : Option V) (xs : List (Addr × Cl × Int)), σ = [some (.int x), some (.int m), some (.int b), some (.int fi), some (.int st), some (.ref lc), v6, v7, v8, v9, v10] ∧ Same H H5 ∧ IsChs K H5 lc xs ∧ (∀ q, q ∈ xs → ChOk 1000 q.2) ∧ xs.map (·.2.1.n) = (List.range i).map fun (j : Nat) => (fi + st * (j : Int)) % 97)
    ⟨_, _, _, _, _, [], rfl, s1.trans s2, ⟨h2, fun q hq => by simp at hq⟩, fun q hq => by simp at hq, rfl⟩ ?_ ?_
  · rintro i σ H5 hi ⟨v6, v7, v8, v9, v10, xs, rfl, s5, hx, ox, en⟩
    have xl : xs.length = i := by
      have := congrArg List.length en
      simpa using this
    refine ⟨_, rfl, _, rfl, _, rfl, _, _, rfl, rfl, .inl ⟨by omega, by omega⟩, _, _, rfl, rfl, _, _, rfl, rfl, (by show (0 : Int) < _; decide), ?_⟩
    have nn : 0 ≤ (fi + st * (0 + (i : Int))) % 97 := Int.emod_nonneg _ (by decide)
    have ne : (fi + st * (0 + (i : Int))) % 97 = (fi + st * (i : Int)) % 97 := by rw [Int.zero_add]
    dsimp only
    generalize (fi + st * (0 + (i : Int))) % 97 = num at nn ne
    refine ⟨_, rfl, _, rfl, _, _, rfl, rfl, x, _, rfl, by show 0 ≤ 100 + (0 + (i : Int)); omega, fun o o0 => ?_⟩
    refine ⟨fun σ' H' => ∃ own : Int, σ' = [some (.int x), some (.int m), some (.int b), some (.int fi), some (.int st), some (.ref lc), some (.int (0 + (i : Int))), some (.int num), some (.int own), v9, v10] ∧ H' = H5, ?_, ?_⟩
    · refine ⟨_, rfl, _, _, rfl, rfl, _, rfl, ?_⟩
      refine ite2 (fun c => ?_) (fun c => ⟨o, rfl, rfl⟩)
      refine ⟨_, rfl, _, rfl, _, rfl, _, _, rfl, rfl, _, _, rfl, rfl, ⟨by decide, by decide, by decide⟩, x, _, _, rfl, by show 0 ≤ 5 + (0 + (i : Int)); omega, by show (0 : Int) < _; decide, fun r2 r20 r21 => ⟨_, _, rfl, rfl, _, rfl, _, _, rfl, by show 0 ≤ 0 + (i : Int); omega, fun o2 _ => ⟨o2, rfl, rfl⟩⟩⟩
    rintro σ' H' ⟨own, rfl, e5⟩
    rw [e5]
    clear e5 H'
    refine ⟨_, rfl, _, rfl, _, rfl, _, _, rfl, rfl, sz 3 (by decide), fun l6 H6 s6 n6 h6 => ⟨_, rfl, own, _, _, rfl, by decide, by decide, fun r6 r60 r61 => ?_⟩⟩
    obtain ⟨v6', e6, z6⟩ := at_3 (.int 4) (.int 30) (.int (b + 1)) r60 r61
    have z6 : ∃ w : Int, v6' = .int w ∧ 0 < w := by
      rcases z6 with rfl | rfl | rfl
      · exact ⟨_, rfl, by decide⟩
      · exact ⟨_, rfl, by decide⟩
      · exact ⟨_, rfl, by omega⟩
    obtain ⟨w6, rfl, w60⟩ := z6
    refine ⟨l6, _, _, _, rfl, rfl, SqL.of h6, e6, own, _, w6, rfl, by decide, w60, fun r7 r70 r71 => ⟨_, _, rfl, rfl, _, _, rfl, ?_⟩⟩
    refine ⟨fun σ' H' => ∃ came : Int, σ' = [some (.int x), some (.int m), some (.int b), some (.int fi), some (.int st), some (.ref lc), some (.int (0 + (i : Int))), some (.int num), some (.int own), some (.int came), v10] ∧ Same H5 H' ∧ 0 ≤ came ∧ came ≤ 1000, ?_, ?_⟩
    · refine ⟨_, rfl, own, _, _, rfl, by decide, by decide, fun r8 r80 r81 => ⟨rfl, _, rfl, ?_⟩⟩
      refine ite2 (fun c => ?_) (fun c => ⟨_, rfl, s6, by split <;> omega, by split <;> omega⟩)
      refine ⟨_, rfl, _, rfl, sz 3 (by decide), fun l9 H9 s9 n9 h9 => ⟨_, rfl, own, _, _, rfl, by decide, by decide, fun r9 r90 r91 => ?_⟩⟩
      obtain ⟨v9', e9, z9⟩ := at_3 (.int 8) (.int 8) (.int 401) r90 r91
      have z9 : ∃ w : Int, v9' = .int w ∧ 0 < w ∧ w ≤ 401 := by
        rcases z9 with rfl | rfl | rfl
        · exact ⟨_, rfl, by decide, by decide⟩
        · exact ⟨_, rfl, by decide, by decide⟩
        · exact ⟨_, rfl, by decide, by decide⟩
      obtain ⟨w9, rfl, w90, w91⟩ := z9
      exact ⟨l9, _, _, _, rfl, rfl, SqL.of h9, e9, own, _, w9, rfl, by decide, w90, fun r10 r100 r101 => ⟨_, _, rfl, rfl, _, rfl, s6.trans s9, by omega, by omega⟩⟩
    clear h6 e6 n6 s6
    rintro σ' H' ⟨came, rfl, s6, c0, c1⟩
    refine ⟨_, rfl, _, rfl, own, _, rfl, by decide, fun pw Ha t d sa wa => ⟨_, rfl, own, _, rfl, by decide, fun pz Hb t2 d2 sb wb => ⟨_, rfl, sz 4 (by decide), fun pc Hc sc nc hc => ?_⟩⟩⟩
    have s5c := s6.trans (sa.trans (sb.trans sc))
    have hxc := hx.same s5c
    refine ⟨_, rfl, .inl ⟨rfl, _, SqL.of hxc.at_⟩, _, rfl, _, rfl, own, _, _, rfl, by decide, by decide, fun lf lf0 lf1 => ⟨sz 2 (by decide), fun p Hd sd nd hd => ?_⟩⟩
    have hxd := hxc.same sd
    refine ⟨lc, _, _, rfl, rfl, hxd.at_, small1000 (by rw [List.length_map]; omega), fun He ke he => ?_⟩
    have wa' := (wa.same sb).same (sc.trans sd)
    have wb' := wb.same (sc.trans sd)
    have hy : IsCh K Hd p (⟨num, t, d, t2, d2, came⟩, lf) := ⟨pc, hd, ⟨pw, pz, sd _ _ hc, wa'.at_, wb'.at_⟩⟩
    have oy : ChOk 1000 ((⟨num, t, d, t2, d2, came⟩ : Cl), lf) := ⟨⟨nn, wa'.t0, wa'.t1, wa'.b0, wa'.b1, wb'.t0, wb'.t1, wb'.b0, wb'.b1, c0, by show came ≤ _; omega⟩, lf0, by show lf ≤ 12; omega, c1⟩
    refine ⟨_, _, _, _, _, xs ++ [(p, (⟨num, t, d, t2, d2, came⟩, lf))], rfl, (s5.trans (s5c.trans sd)).but nlc ke, ⟨by rw [he, List.map_append]; rfl, fun q' hq => ?_⟩, fun q' hq => ?_, ?_⟩
    · rcases List.mem_append.mp hq with hq | hq
      · exact (hxd.ch q' hq).but ke hxd.at_
      · rw [List.mem_singleton.mp hq]
        exact hy.but ke hxd.at_
    · rcases List.mem_append.mp hq with hq | hq
      · exact ox q' hq
      · rw [List.mem_singleton.mp hq]
        exact oy
    · rw [List.map_append, en, List.range_succ, List.map_append]
      congr 1
      show [num] = [(fi + st * (i : Int)) % 97]
      rw [ne]
  · rintro σ H5 ⟨v6, v7, v8, v9, v10, xs, rfl, s5, hx, ox, en⟩
    have xl : xs.length = m.toNat := by
      have := congrArg List.length en
      simpa using this
    refine ⟨_, rfl, q lc xs H5 s5 nlc ⟨hx, by omega, ox, ?_⟩ (fun q' hq' => ?_)⟩
    rotate_left
    · have : q'.2.1.n ∈ xs.map (·.2.1.n) := List.mem_map.mpr ⟨q', hq', rfl⟩
      rw [en] at this
      obtain ⟨j, _, e⟩ := List.mem_map.mp this
      rw [← e]
      exact Int.emod_lt_of_pos _ (by decide)
    rw [en, List.nodup_iff_pairwise_ne, List.pairwise_map]
    refine List.Pairwise.imp_of_mem (fun {i j} hi hj ne z => ne ?_) (List.nodup_iff_pairwise_ne.mp List.nodup_range)
    have hi := List.mem_range.mp hi
    have hj := List.mem_range.mp hj
    rcases hst with rfl | rfl | rfl | rfl <;> omega
def spCase (K : PySem.W.Frag) : Sp := fun vs H Q _ => ∃ x m : Int, vs = [.int x, .int m] ∧ 0 < m ∧ m ≤ 13 ∧ ∀ p l xs h b H', Same H H' → H' p = some (.tup [.ref l, .int h, .int b]) → H l = none → ChIn K H' l xs → 0 < h → 0 ≤ b → b ≤ 100 → (∀ q, q ∈ xs → q.2.1.n < 97) → Q (.ref p) H'
theorem sc_law_case : FnScope ["_law_cell", "_law_most", "_law_begin", "_law_many", "_law_hands"] ["_law_cell", "_law_most"] (defScope s_law_case) := ⟨rfl, rfl, rfl, by decide +kernel, rfl, by decide +kernel, by decide +kernel⟩
theorem ok_law_case (D : Dfn K mg "_law_case" s_law_case ["_law_cell", "_law_most"] f fd) (T : Txt K mg c_WaitError c_NoPiece c_NoEnd) (C_law_draw : Cal P w K mg base "_law_draw" 2 ["_law_cell", "_law_k", "_law_many"] spDraw3) (C_law_chores : Cal P w K mg base "_law_chores" 4 ["_law_cell", "_law_many", "_law_begin"] (spLCh K)) : Cal P w K mg base "_law_case" 5 ["_law_cell", "_law_most"] (spCase K) := by
  refine D.cal (D.F.ok sc_law_case (fun vs H Q E h => ?_) (fun cdv A outer s H vs Q E hr h => ?_))
  · obtain ⟨x, m, rfl, _⟩ := h
    rfl
  obtain ⟨x, m, rfl, m0, m1, q⟩ := h
  refine ⟨_, (pss_cons (ps_set (i := 2) sc_law_case.nd rfl (Or.inl rfl) (pe_ix ix_list (pe_lstS (pa_cons pe_int (pa_cons pe_int (pa_cons pe_int pa_nil)))) (pe_cal C_law_draw (hr.mono (by decide)) rfl (pa_cons (pv 0) (pa_cons pe_int (pa_cons pe_int pa_nil)))) (fun _ _ => rfl)))
      (pss_cons (ps_set (i := 3) sc_law_case.nd rfl (Or.inl rfl) (pe_cal C_law_draw (hr.mono (by decide)) rfl (pa_cons (pv 0) (pa_cons pe_int (pa_cons (pe_ix ix_list (pe_lstS (pa_cons pe_int (pa_cons pe_int (pa_cons (pv 1) pa_nil)))) (pe_op op_fdiv (pe_cal C_law_draw (hr.mono (by decide)) rfl (pa_cons (pv 0) (pa_cons pe_int (pa_cons pe_int pa_nil)))) pe_int) (fun _ _ => rfl)) pa_nil)))))
      (pss_cons (ps_set (i := 4) sc_law_case.nd rfl (Or.inl rfl) (pe_op op_add pe_int (pe_cal C_law_draw (hr.mono (by decide)) rfl (pa_cons (pv 0) (pa_cons pe_int (pa_cons (pe_ix ix_list (pe_lstS (pa_cons pe_int (pa_cons pe_int (pa_cons pe_int pa_nil)))) (pe_cal C_law_draw (hr.mono (by decide)) rfl (pa_cons (pv 0) (pa_cons pe_int (pa_cons pe_int pa_nil)))) (fun _ _ => rfl)) pa_nil))))))
      (pss_one (ps_ret (pe_tupS (pa_cons (pe_cal C_law_chores (hr.mono (by decide)) rfl (pa_cons (pv 0) (pa_cons (pv 3) (pa_cons (pv 2) pa_nil)))) (pa_cons (pv 4) (pa_cons (pv 2) pa_nil))))))))), ?_⟩
  refine ⟨sz 3 (by decide), fun l1 H1 s1 n1 h1 => ⟨_, rfl, x, _, _, rfl, by decide, by decide, fun r1 r10 r11 => ?_⟩⟩
  obtain ⟨v1, e1, z1⟩ := at_3 (.int 0) (.int 5) (.int 100) r10 r11
  have z1 : ∃ b : Int, v1 = .int b ∧ 0 ≤ b ∧ b ≤ 100 := by
    rcases z1 with rfl | rfl | rfl
    · exact ⟨_, rfl, by decide, by decide⟩
    · exact ⟨_, rfl, by decide, by decide⟩
    · exact ⟨_, rfl, by decide, by decide⟩
  obtain ⟨b, rfl, b0, b1⟩ := z1
  refine ⟨l1, _, _, _, rfl, rfl, SqL.of h1, e1, ?_⟩
  refine ⟨_, rfl, _, rfl, sz 3 (by decide), fun l2 H2 s2 n2 h2 => ⟨_, rfl, x, _, _, rfl, by decide, by decide, fun r2 r20 r21 => ⟨_, _, rfl, rfl, ⟨by decide, by decide⟩, ?_⟩⟩⟩
  obtain ⟨v2, e2, z2⟩ := at_3 (.int 7) (.int 7) (.int m) (r := r2 / 7) (by omega) (by omega)
  have z2 : ∃ k : Int, v2 = .int k ∧ 0 < k ∧ k ≤ 13 := by
    rcases z2 with rfl | rfl | rfl
    · exact ⟨_, rfl, by decide, by decide⟩
    · exact ⟨_, rfl, by decide, by decide⟩
    · exact ⟨_, rfl, m0, m1⟩
  obtain ⟨k, rfl, k0, k1⟩ := z2
  refine ⟨l2, _, _, _, rfl, rfl, SqL.of h2, e2, x, _, k, rfl, by decide, k0, fun many y0 y1 => ?_⟩
  refine ⟨_, rfl, sz 3 (by decide), fun l3 H3 s3 n3 h3 => ⟨_, rfl, x, _, _, rfl, by decide, by decide, fun r3 r30 r31 => ?_⟩⟩
  obtain ⟨v3, e3, z3⟩ := at_3 (.int 2) (.int 3) (.int 6) r30 r31
  have z3 : ∃ k : Int, v3 = .int k ∧ 0 < k := by
    rcases z3 with rfl | rfl | rfl
    · exact ⟨_, rfl, by decide⟩
    · exact ⟨_, rfl, by decide⟩
    · exact ⟨_, rfl, by decide⟩
  obtain ⟨k3, rfl, k30⟩ := z3
  refine ⟨l3, _, _, _, rfl, rfl, SqL.of h3, e3, x, _, k3, rfl, by decide, k30, fun h h0 h1 => ⟨_, _, rfl, rfl, ?_⟩⟩
  refine ⟨_, rfl, _, rfl, _, rfl, x, many, b, rfl, y0, by omega, b0, b1, fun l xs H4 s4 n4 hI h97 => ⟨_, rfl, _, rfl, sz 3 (by decide), fun p H5 s5 n5 h5 => ?_⟩⟩
  have s03 := s1.trans (s2.trans s3)
  exact q p l xs (1 + h) b H5 (s03.trans (s4.trans s5)) h5 (Same.free s03 n4) (hI.same s5) (by omega) b0 b1 h97
structure LatOf (H : Hp) (d : Addr) (h : Nat) (b : Int) (c : Ch) (L : List (Int × Int)) : Prop where
  at_ : H d = some (.dK (dI L))
  ex : ∃ N, L = lastI (runN h N b (bhC [] c)).1 [] ∧ (runN h N b (bhC [] c)).2 = [] ∧ ∀ k, k < N → (runN h k b (bhC [] c)).2 ≠ []
  len : (dI L).length < sizeLine
theorem LatOf.same {H H' : Hp} {d : Addr} {h : Nat} {b : Int} {c : Ch} {L : List (Int × Int)} (s : Same H H') (l : LatOf H d h b c L) : LatOf H' d h b c L := ⟨s _ _ l.at_, l.ex, l.len⟩
theorem LatOf.alike {H H' : Hp} {d e : Addr} {h : Nat} {b : Int} {c : Ch} {L T : List (Int × Int)} (l : LatOf H d h b c L) (m : LatOf H' e h b c T) : L = T := by
  obtain ⟨n, a1, a2, a3⟩ := l.ex
  obtain ⟨k, b1, b2, b3⟩ := m.ex
  have := run_uniq a2 a3 b2 b3
  subst this
  rw [a1, b1]
theorem RunOf.lat {H0 H H' : Hp} {h : Nat} {b : Int} {c : Ch} {D d : Addr} {rs : List (Addr × Addr × Int × List Int)} (R : RunOf H0 H h b c D rs) (l40 : ∀ r, r ∈ rs → r.2.2.2.length ≤ 40) (l14 : rs.length ≤ 1481) (hd : H' d = some (.dK (dI (lastI (rowsOf rs) [])))) : LatOf H' d h b c (lastI (rowsOf rs) []) := by
  obtain ⟨n, a1, a2, a3⟩ := R.eq
  have hL := ends_len (i := rs.length) (j := 0) (t := 0) (ws := []) l40 l14 (by decide)
  rw [List.take_length] at hL
  exact ⟨hd, ⟨n, by rw [← a1], a2, a3⟩, hL⟩
theorem ChIn.gd {H : Hp} {l : Addr} {xs : List (Addr × Cl × Int)} (hI : ChIn K H l xs) : GdC (xs.map (·.2)) := by
  refine ⟨fun k hk => ?_, ?_⟩
  · obtain ⟨q, hq, rfl⟩ := List.mem_map.mp hk
    exact (hI.ok q hq).ok
  · rw [List.map_map]
    exact hI.nd
def spLatest (K : PySem.W.Frag) (tT : Addr) : Sp := fun vs H Q _ => ∃ (l : Addr) (xs : List (Addr × Cl × Int)) (h b : Int), vs = [.ref l, .int h, .int b] ∧ ChIn K H l xs ∧ 0 < h ∧ 0 ≤ b ∧ b ≤ 1000 ∧ H tT = some (.tbl lamPos lamQ) ∧
  ∀ d H' L, Same H H' → H d = none → LatOf H' d h.toNat b (xs.map (·.2)) L → Q (.ref d) H'
theorem sc_latest_all : FnScope ["chores", "hands", "begin"] ["chores", "hands", "begin"] (defScope s_latest_all) := ⟨rfl, rfl, rfl, by decide +kernel, rfl, by decide +kernel, by decide +kernel⟩
theorem ok_latest_all (D : Dfn K mg "latest_all" s_latest_all ["chores", "hands", "begin"] f fd) (T : Txt K mg c_WaitError c_NoPiece c_NoEnd) (C_run_of : CalD P w K mg base "run_of" 10 ["chores", "hands", "begin", "real"] (spRun K tT)) (C_last_turns : Cal P w K mg base "last_turns" 1 ["rows"] (spEnds K)) : Cal P w K mg base "latest_all" 11 ["chores", "hands", "begin"] (spLatest K tT) := by
  refine D.cal (D.F.ok sc_latest_all (fun vs H Q E h => ?_) (fun cdv A outer s H vs Q E hr h => ?_))
  · obtain ⟨l, xs, h, b, rfl, _⟩ := h
    rfl
  obtain ⟨l, xs, h, b, rfl, hI, h0, b0, b1, hT, q⟩ := h
  refine ⟨_, (pss_one (ps_ret (pe_cal C_last_turns (hr.mono (by decide)) rfl (pa_cons (pe_calD C_run_of (hr.mono (by decide)) rfl (pa_cons (pv 0) (pa_cons (pv 1) (pa_cons (pv 2) pa_nil)))) pa_nil)))), ?_⟩
  refine ⟨_, rfl, _, rfl, _, rfl, l, xs, h, b, rfl, hI, h0, b0, b1, hT, fun D H1 rs s1 nD R l40 l14 => ?_⟩
  exact ⟨D, rs, rfl, R.run, l40, l14, fun d H2 s2 nd hd => q d H2 _ (s1.trans s2) (Same.free s1 nd) (R.lat l40 l14 hd)⟩
theorem LatOf.val {H : Hp} {d : Addr} {h : Nat} {b : Int} {c : Ch} {L : List (Int × Int)} (l : LatOf H d h b c L) {k : Cl × Int} (hk : k ∈ c) (pos : 0 < k.2) : ∃ u, valI L k.1.n = some u := by
  obtain ⟨N, e, n, _⟩ := l.ex
  have hm : k ∈ bhC [] c := by
    rw [bhC_nil]
    exact List.mem_filter.mpr ⟨hk, decide_eq_true pos⟩
  obtain ⟨i, _, i2, i3⟩ := run_works (h := h) (b := b) (d := bhC [] c) (j := k.1.n) N 0 (List.mem_map.mpr ⟨k, hm, rfl⟩) (fun k hk => bhC_pos hk) (by rw [Nat.zero_add]; exact n)
  obtain ⟨u, h1, _⟩ := lastI_ge (L := []) (run_up N).1 (.inr ⟨_, run_rows (show i < N by omega), rfl, i3⟩)
  exact ⟨u, by rw [e]; exact h1⟩
def spLatOf (K : PySem.W.Frag) (cP tT : Addr) : Sp := fun vs H Q E => ∃ (l : Addr) (xs : List (Addr × Cl × Int)) (h b : Int) (x : V), vs = [.ref l, .int h, .int b, x] ∧ ChIn K H l xs ∧ 0 < h ∧ 0 ≤ b ∧ b ≤ 1000 ∧ H tT = some (.tbl lamPos lamQ) ∧
  ((∃ k, k ∈ xs ∧ 0 < k.2.2 ∧ x = .int k.2.1.n ∧ ∀ u d H' L, Same H H' → LatOf H' d h.toNat b (xs.map (·.2)) L → valI L k.2.1.n = some u → Q (.int u) H') ∨
   (NoPc K H xs x ∧ ∀ a H', Same H H' → Told K H' a cP "number" x → E (.ref cP) (some a) H'))
theorem sc_latest_of : FnScope ["chores", "hands", "begin", "number"] ["chores", "hands", "begin", "number"] (defScope s_latest_of) := ⟨rfl, rfl, rfl, by decide +kernel, rfl, by decide +kernel, by decide +kernel⟩
theorem ok_latest_of (D : Dfn K mg "latest_of" s_latest_of ["chores", "hands", "begin", "number"] f fd) (T : Txt K mg c_WaitError c_NoPiece c_NoEnd) (C_check_piece : Cal1 P w K mg base "check_piece" 4 ["chores", "number"] (spChkP K c_NoPiece)) (C_latest_all : Cal P w K mg base "latest_all" 11 ["chores", "hands", "begin"] (spLatest K tT)) : Cal1 P w K mg base "latest_of" 12 ["chores", "hands", "begin", "number"] (spLatOf K c_NoPiece tT) := by
  refine D.cal1 (D.F.ok1 sc_latest_of (fun vs H Q E h => ?_) (fun cdv A outer s H vs Q E hr h => ?_))
  · obtain ⟨l, xs, h, b, x, rfl, _⟩ := h
    rfl
  obtain ⟨l, xs, h, b, x, rfl, hI, h0, b0, b1, hT, h⟩ := h
  refine ⟨_, (pss_cons (ps_expr (pe_cal1 C_check_piece passes1 (hr.mono (by decide)) rfl (pa_cons (pv 0) (pa_cons (pv 3) pa_nil))))
      (pss_one (ps_ret (pe_dget hr.units1 (pe_cal C_latest_all (hr.mono (by decide)) rfl (pa_cons (pv 0) (pa_cons (pv 1) (pa_cons (pv 2) pa_nil)))) (pv 3) (fun _ _ => rfl))))), ?_⟩
  rcases h with ⟨k, hk, p, rfl, q⟩ | ⟨no, qE⟩
  · refine ⟨_, rfl, _, rfl, l, xs, _, rfl, hI, .inl ⟨k, hk, p, rfl, fun H1 s1 => ?_⟩⟩
    refine ⟨_, rfl, _, rfl, _, rfl, l, xs, h, b, rfl, hI.same s1, h0, b0, b1, s1 _ _ hT, fun d H2 L s2 nd hA => ?_⟩
    obtain ⟨u, hu⟩ := hA.val (List.mem_map.mpr ⟨k, hk, rfl⟩) p
    have g := dget_I (.inl hA.at_) k.2.1.n
    rw [hu] at g
    exact ⟨_, rfl, d, _, rfl, g, q u d H2 L (s1.trans s2) hA hu⟩
  · exact ⟨_, rfl, _, rfl, l, xs, _, rfl, hI, .inr ⟨no, qE⟩⟩
def spWit (K : PySem.W.Frag) (cP tT : Addr) : Sp := fun vs H Q E => ∃ (l : Addr) (xs : List (Addr × Cl × Int)) (h b : Int) (x : V), vs = [.ref l, .int h, .int b, x] ∧ ChIn K H l xs ∧ 0 < h ∧ 0 ≤ b ∧ b ≤ 1000 ∧ H tT = some (.tbl lamPos lamQ) ∧
  ((∃ k, k ∈ xs ∧ 0 < k.2.2 ∧ x = .int k.2.1.n ∧ ∀ D D0 H' rs u, Same H H' → H D = none → RunOf H H' h.toNat b (xs.map (·.2)) D0 rs → (∀ r, r ∈ rs → r.2.2.2.length ≤ 40) → rs.length ≤ 1481 → valI (lastI (rowsOf rs) []) k.2.1.n = some u → (∀ r, r ∈ rs → r.2.1 ≠ D) → IsRun H' D (rs.filter fun r => decide (r.2.2.1 ≤ u)) → Q (.ref D) H') ∨
   (NoPc K H xs x ∧ ∀ a H', Same H H' → Told K H' a cP "number" x → E (.ref cP) (some a) H'))
theorem sc_witness_run : FnScope ["chores", "hands", "begin", "number", "rows", "latest"] ["chores", "hands", "begin", "number"] (defScope s_witness_run) := ⟨rfl, rfl, rfl, by decide +kernel, rfl, by decide +kernel, by decide +kernel⟩
theorem ok_witness_run (D : Dfn K mg "witness_run" s_witness_run ["chores", "hands", "begin", "number"] f fd) (T : Txt K mg c_WaitError c_NoPiece c_NoEnd) (C_run_of : CalD P w K mg base "run_of" 10 ["chores", "hands", "begin", "real"] (spRun K tT)) (C_check_piece : Cal1 P w K mg base "check_piece" 4 ["chores", "number"] (spChkP K c_NoPiece)) (C_last_turns : Cal P w K mg base "last_turns" 1 ["rows"] (spEnds K)) : Cal1 P w K mg base "witness_run" 12 ["chores", "hands", "begin", "number"] (spWit K c_NoPiece tT) := by
  refine D.cal1 (D.F.ok1 sc_witness_run (fun vs H Q E h => ?_) (fun cdv A outer s H vs Q E hr h => ?_))
  · obtain ⟨l, xs, h, b, x, rfl, _⟩ := h
    rfl
  obtain ⟨l, xs, h, b, x, rfl, hI, h0, b0, b1, hT, h⟩ := h
  refine ⟨_, (pss_cons (ps_expr (pe_cal1 C_check_piece passes1 (hr.mono (by decide)) rfl (pa_cons (pv 0) (pa_cons (pv 3) pa_nil))))
      (pss_cons (ps_set (i := 4) sc_witness_run.nd rfl (Or.inl rfl) (pe_calD C_run_of (hr.mono (by decide)) rfl (pa_cons (pv 0) (pa_cons (pv 1) (pa_cons (pv 2) pa_nil)))))
      (pss_cons (ps_set (i := 5) sc_witness_run.nd rfl (Or.inr rfl) (pe_dget hr.units1 (pe_cal C_last_turns (hr.mono (by decide)) rfl (pa_cons (pv 4) pa_nil)) (pv 3) (fun _ _ => rfl)))
      (pss_one (ps_ret (pe_comp (N := ["row", "latest"]) (js := [5]) rfl (CompScope.of rfl rfl rfl rfl rfl (by decide +kernel) rfl rfl rfl rfl) (pi_list (pv 4)) (fun _ _ _ _ _ => (ct_one (pt_cmpR op_le (pe_ix (r := rIxT K) ix_tup (pv 0) pe_int (fun _ _ => rfl)) (pv 1) (nomark _)))) (fun _ _ _ _ _ => (pv 0)))))))), ?_⟩
  rcases h with ⟨k, hk, p, rfl, q⟩ | ⟨no, qE⟩
  · refine ⟨_, rfl, _, rfl, l, xs, _, rfl, hI, .inl ⟨k, hk, p, rfl, fun H1 s1 => ?_⟩⟩
    refine ⟨_, rfl, _, rfl, _, rfl, l, xs, h, b, rfl, hI.same s1, h0, b0, b1, s1 _ _ hT, fun D0 H2 rs s2 nD0 R l40 l14 => ?_⟩
    refine ⟨_, rfl, D0, rs, rfl, R.run, l40, l14, fun d H3 s3 nd hd => ?_⟩
    obtain ⟨u, hu⟩ := (R.lat l40 l14 hd).val (List.mem_map.mpr ⟨k, hk, rfl⟩) p
    have g := dget_I (.inl hd) k.2.1.n
    rw [hu] at g
    refine ⟨_, rfl, d, _, rfl, g, ?_⟩
    have R3 := R.run.same s3
    have mr : (rs.map fun r => V.ref r.1).length = rs.length := List.length_map _
    have big : (rs.map fun r => V.ref r.1).length < sizeLine := by
      rw [mr]
      have z : (100000 : Nat) ≤ sizeLine := by decide
      omega
    refine ⟨_, rfl, D0, rfl, ⟨_, SqL.of R3.at_⟩, ?_⟩
    refine comp_list (xs := rs.map fun r => V.ref r.1) (tak rs fun r => decide (r.2.2.1 ≤ u)) (itm rs fun r => V.ref r.1) (SqL.of R3.at_) ?_ ?_ big (fun D H4 s4 nD hD => ?_)
    · intro i y Hh Q' hi sh q'
      rw [List.getElem?_map] at hi
      cases e : rs[i]? with
      | none => rw [e] at hi; cases hi
      | some r =>
        rw [e] at hi
        cases hi
        have z := q' Hh (Same.refl _)
        unfold tak at z
        rw [e] at z
        exact ⟨_, rfl, r.1, _, _, _, rfl, rfl, SqT.of (sh _ _ (R3.row r (List.mem_of_getElem? e))), rfl, _, rfl, _, _, rfl, rfl, _, rfl, z⟩
    · intro i y Hh Q' hi _ sh q'
      rw [List.getElem?_map] at hi
      cases e : rs[i]? with
      | none => rw [e] at hi; cases hi
      | some r =>
        rw [e] at hi
        cases hi
        have z := q' Hh (Same.refl _)
        unfold itm at z
        rw [e] at z
        exact ⟨_, rfl, z⟩
    rw [mr, tak_fil] at hD
    have s24 := s3.trans s4
    have R4 : RunOf H H4 h.toNat b (xs.map (·.2)) D0 rs := ⟨R.run.same s24, fun r hr => Same.free s1 (R.new r hr), R.ne, R.eq⟩
    refine q D D0 H4 rs u (s1.trans (s2.trans s24)) (Same.free (s1.trans (s2.trans s3)) nD) R4 l40 l14 hu (fun r hr z => ?_) (R4.run.cut hD)
    have := R3.num r hr
    rw [z, nD] at this
    cases this
  · exact ⟨_, rfl, _, rfl, l, xs, _, rfl, hI, .inr ⟨no, qE⟩⟩
theorem sc_law_whole : FnScope ["_law_found"] ["_law_found"] (defScope s_law_whole) := ⟨rfl, rfl, rfl, by decide +kernel, rfl, by decide +kernel, by decide +kernel⟩
theorem ok_law_whole (D : Dfn K mg "_law_whole" s_law_whole ["_law_found"] f fd) (T : Txt K mg c_WaitError c_NoPiece c_NoEnd) : Cal P w K mg base "_law_whole" 1 ["_law_found"] spWhole := by
  refine D.cal (D.F.ok sc_law_whole (fun vs H Q E h => ?_) (fun cdv A outer s H vs Q E hr h => ?_))
  · obtain ⟨i, rfl, _⟩ := h
    rfl
  obtain ⟨i, rfl, q⟩ := h
  refine ⟨_, (pss_one (ps_ret (pe_and (pe_callB (call_isYT (n := "int")) rfl T.b_isinstance bt_isinstance (pa_cons (pv 0) (pa_cons (pe_bltn (v := .ty "int") rfl T.b_int bt_int rfl) pa_nil))) (pe_one (pe_not (pe_callB (call_isYT (n := "bool")) rfl T.b_isinstance bt_isinstance (pa_cons (pv 0) (pa_cons (pe_bltn (v := .ty "bool") rfl T.b_bool bt_bool rfl) pa_nil)))))))), ?_⟩
  refine ⟨_, rfl, _, _, _, rfl, .old (.int _), T.q_int_int, _, rfl, iteT ?_⟩
  exact ⟨_, rfl, _, _, _, rfl, .old (.int _), T.q_int_bool, _, rfl, q⟩
def spRef (K : PySem.W.Frag) (tT : Addr) : Sp := fun vs H Q _ => ∃ (l : Addr) (xs : List (Addr × Cl × Int)) (h b : Int) (x : V), vs = [.ref l, .int h, .int b, x] ∧ ChIn K H l xs ∧ 0 < h ∧ 0 ≤ b ∧ b ≤ 1000 ∧ H tT = some (.tbl lamPos lamQ) ∧ NoPc K H xs x ∧ (∃ y, Shw K H x y) ∧
  ∀ H', Same H H' → Q (.bl true) H'
theorem sc_law_refused : FnScope ["_law_chores_here", "_law_hands", "_law_begin", "_law_thing", "_law_caught", "_law_way", "e"] ["_law_chores_here", "_law_hands", "_law_begin", "_law_thing"] (defScope s_law_refused) := ⟨rfl, rfl, rfl, by decide +kernel, rfl, by decide +kernel, by decide +kernel⟩
theorem ok_law_refused (D : Dfn K mg "_law_refused" s_law_refused ["_law_chores_here", "_law_hands", "_law_begin", "_law_thing"] f fd) (T : Txt K mg c_WaitError c_NoPiece c_NoEnd) (C_latest_of : Cal1 P w K mg base "latest_of" 12 ["chores", "hands", "begin", "number"] (spLatOf K c_NoPiece tT)) (C_witness_run : Cal1 P w K mg base "witness_run" 12 ["chores", "hands", "begin", "number"] (spWit K c_NoPiece tT)) : Cal P w K mg base "_law_refused" 13 ["_law_chores_here", "_law_hands", "_law_begin", "_law_thing"] (spRef K tT) := by
  refine D.cal (D.F.ok sc_law_refused (fun vs H Q E h => ?_) (fun cdv A outer s H vs Q E hr h => ?_))
  · obtain ⟨l, xs, h, b, x, rfl, _⟩ := h
    rfl
  obtain ⟨l, xs, h, b, x, rfl, hI, h0, b0, b1, hT, no, ⟨y, sh⟩, q⟩ := h
  have mroP : PySem.W.mroIn K c_NoPiece (.ref c_NoPiece) = some true := by
    rw [T.d_NoPiece.mro, List.contains_cons]
    simp
  refine ⟨_, (pss_cons (ps_set (i := 4) sc_law_refused.nd rfl (Or.inl rfl) (pe_lstS (pa_cons pe_int (pa_cons pe_int pa_nil))))
      (pss_cons (ps_for PassesOwn.never rfl (pi_range1 rfl T.b_range (pa_cons pe_int pa_nil)) (pg_name (i := 5) sc_law_refused.nd rfl (Or.inl rfl)) (pss_one (ps_try rfl rfl (fun _ _ _ => (pss_one1 (ps_if1 (pt_cmpR op_eq (pv 5) pe_int (nomark _)) (pss_one1 (ps_expr1 (pe_calT C_latest_of (hr.mono (by decide)) rfl (pai (pai_cons (pv 0) (pai_cons (pv 1) (pai_cons (pv 2) (pai_cons (pv 3) pai_nil)))))))) (pss_one1 (ps_expr1 (pe_calT C_witness_run (hr.mono (by decide)) rfl (pai (pai_cons (pv 0) (pai_cons (pv 1) (pai_cons (pv 2) (pai_cons (pv 3) pai_nil))))))))))) (ph_as (i := 6) (fun _ => (pss_one (ps_asg (pe_callTy call_int1 rfl T.b_int bt_int (pa_cons (pe_cmpR op_eq (pe_callB (call_reprK (K := K) (show _ from hr.gd) (show _ from hr.units4) rfl) rfl T.b_repr bt_repr (pa_cons (pe_xfldK (K := K) (pv 6) rfl rfl) pa_nil)) (pe_callB (call_reprK (K := K) (show _ from hr.gd) (show _ from hr.units4) rfl) rfl T.b_repr bt_repr (pa_cons (pv 3) pa_nil)) (nomark _)) pa_nil)) (pg_sub (pv 4) (pv 5) set_listS)))) (ph_no (fun _ => (pss_one (ps_asg pe_int (pg_sub (pv 4) (pv 5) set_listS)))) ph_never rfl T.g_WaitError (T.d_WaitError.base rfl) T.d_WaitError.ty) sc_law_refused.nd rfl rfl rfl T.g_NoPiece (T.d_NoPiece.base rfl) T.d_NoPiece.ty))))
      (pss_one (ps_ret (pe_cmpR (op_eq_lst hr.units0) (pv 4) (pe_lstS (pa_cons pe_int (pa_cons pe_int pa_nil))) (nomark _)))))), ?_⟩
  refine ⟨sz 2 (by decide), fun m H1 s1 n1 h1 => ?_⟩
  refine ⟨_, rfl, by decide, by decide, ?_⟩
  refine for_range (fun i σ H' => ∃ v5 v6 : Option V, σ = [some (.ref l), some (.int h), some (.int b), some x, some (.ref m), v5, v6] ∧ Same H H' ∧ H' m = some (.lst [.int (if 0 < i then 1 else 0), .int (if 1 < i then 1 else 0)])) ⟨_, _, rfl, s1, h1⟩ ?_ ?_
  · rintro i σ H2 hi ⟨v5, v6, rfl, s2, h2⟩
    have hi : i < 2 := hi
    have dx : i = 0 ∨ i = 1 := by omega
    refine ⟨⟨fun cls a H' => ∃ a', a = some a' ∧ Same H2 H' ∧ cls = .ref c_NoPiece ∧ Told K H' a' c_NoPiece "number" x, ?_, ?_⟩⟩
    · refine ⟨_, rfl, rfl, _, rfl, ?_⟩
      refine ite2 (fun c => ?_) (fun c => ?_)
      · exact ⟨_, rfl, _, rfl, _, rfl, _, rfl, l, xs, h, b, x, rfl, hI.same s2, h0, b0, b1, s2 _ _ hT, .inr ⟨no.same s2, fun a H3 s3 h3 => ⟨a, rfl, s3, rfl, h3⟩⟩⟩
      · exact ⟨_, rfl, _, rfl, _, rfl, _, rfl, l, xs, h, b, x, rfl, hI.same s2, h0, b0, b1, s2 _ _ hT, .inr ⟨no.same s2, fun a H3 s3 h3 => ⟨a, rfl, s3, rfl, h3⟩⟩⟩
    · rintro C a H3 hx0 ⟨a', e2, s3, e, h3⟩
      cases e2
      cases e
      refine ⟨true, mroP, iteT ?_⟩
      obtain ⟨d, ws, e1, e2⟩ := h3.ex
      have sh3 := (sh.same s2).same s3
      refine ⟨_, rfl, a, _, d, ws, _, _, rfl, e1, e2, T.x_NoPiece, T.n_NoPiece, lk1 _ _, x, y, rfl, sh3, _, rfl, x, y, rfl, sh3, rfl, .inr ⟨_, rfl, ?_⟩⟩
      have h23 := s3 _ _ h2
      refine ⟨_, rfl, _, rfl, m, _, _, i, rfl, rfl, h23, ?_, fun H4 k4 h4 => ?_⟩
      · rcases dx with rfl | rfl <;> rfl
      refine ⟨_, _, rfl, (s2.trans s3).but (Same.free (Same.refl H) n1) k4, ?_⟩
      rw [h4]
      have ed : decide (V.str y = V.str y) = true := decide_eq_true rfl
      rcases dx with rfl | rfl
      · simp
      · simp
  · rintro σ H2 ⟨v5, v6, rfl, s2, h2⟩
    have h2 : H2 m = some (.lst [.int 1, .int 1]) := h2
    exact ⟨_, rfl, sz 2 (by decide), fun l3 H3 s3 n3 h3 => ⟨m, l3, _, _, rfl, rfl, SqL.of (s3 _ _ h2), SqL.of h3, rfl, rfl, q H3 (s2.trans s3)⟩⟩
theorem mem_cut {x : V} {xs : List V} {lo hi : Option Int} (h : x ∈ cutV xs lo hi) : x ∈ xs := by
  unfold cutV at h
  exact List.mem_of_mem_drop (List.mem_of_mem_take h)
theorem run_rows_eq {rs qs : List (Addr × Addr × Int × List Int)} (e : rowsOf rs = rowsOf qs) (u : Int) : rowsOf (rs.filter fun r => decide (r.2.2.1 ≤ u)) = rowsOf (qs.filter fun r => decide (r.2.2.1 ≤ u)) := by
  have f : ∀ l : List (Addr × Addr × Int × List Int), rowsOf (l.filter fun r => decide (r.2.2.1 ≤ u)) = (rowsOf l).filter fun r => decide (r.1 ≤ u) := fun l => by
    unfold rowsOf
    rw [List.filter_map]
    rfl
  rw [f, f, e]
theorem rows_alike {H : Hp} {a b : Addr} {rs qs : List (Addr × Addr × Int × List Int)} (R : IsRun H a rs) (S : IsRun H b qs) (e : rowsOf rs = rowsOf qs) : rRows K 9 (.ref a) (.ref b) H := by
  obtain ⟨l, d⟩ := R.deq (K := K) S e
  exact ⟨a, b, _, _, rfl, rfl, .inr ⟨SqL.of R.at_, SqL.of S.at_⟩, by rw [List.length_map, List.length_map, l], d⟩
theorem lat_key {H : Hp} {d : Addr} {h : Nat} {b : Int} {xs : List (Addr × Cl × Int)} {L : List (Int × Int)} (l : LatOf H d h b (xs.map (·.2)) L) {p : Int × Int} (hp : p ∈ L) : ∃ k, k ∈ xs ∧ 0 < k.2.2 ∧ p.1 = k.2.1.n := by
  obtain ⟨N, e, _, _⟩ := l.ex
  have hj : p.1 ∈ (lastI (runN h N b (bhC [] (xs.map (·.2)))).1 []).map (·.1) := by
    rw [← e]
    exact List.mem_map.mpr ⟨p, hp, rfl⟩
  rcases lastI_mem hj with z | ⟨r, hr, hj⟩
  · cases z
  · obtain ⟨k, hk, ek⟩ := List.mem_map.mp ((run_sub N).2 r hr _ hj)
    rw [bhC_nil] at hk
    obtain ⟨h1, h2⟩ := List.mem_filter.mp hk
    obtain ⟨q, hq, rfl⟩ := List.mem_map.mp h1
    exact ⟨q, hq, of_decide_eq_true h2, ek.symm⟩
def spRight (K : PySem.W.Frag) (tT : Addr) : Sp := fun vs H Q _ => ∃ (l : Addr) (xs : List (Addr × Cl × Int)) (h b : Int), vs = [.ref l, .int h, .int b] ∧ ChIn K H l xs ∧ 0 < h ∧ 0 ≤ b ∧ b ≤ 1000 ∧ H tT = some (.tbl lamPos lamQ) ∧ ∀ H', Same H H' → Q (.bl true) H'
theorem sc_law_right : FnScope ["_law_chores_here", "_law_hands", "_law_begin", "_law_rows", "_law_ends_here", "_law_lap", "_law_found", "_law_number", "_law_turn_here", "_law_due", "_law_when", "_law_numbers"] ["_law_chores_here", "_law_hands", "_law_begin"] (defScope s_law_right) := ⟨rfl, rfl, rfl, by decide +kernel, rfl, by decide +kernel, by decide +kernel⟩
theorem ok_law_right (D : Dfn K mg "_law_right" s_law_right ["_law_chores_here", "_law_hands", "_law_begin"] f fd) (T : Txt K mg c_WaitError c_NoPiece c_NoEnd) (C_latest_all : Cal P w K mg base "latest_all" 11 ["chores", "hands", "begin"] (spLatest K tT)) (C_latest_of : Cal1 P w K mg base "latest_of" 12 ["chores", "hands", "begin", "number"] (spLatOf K c_NoPiece tT)) (C_witness_run : Cal1 P w K mg base "witness_run" 12 ["chores", "hands", "begin", "number"] (spWit K c_NoPiece tT)) (C_law_whole : Cal P w K mg base "_law_whole" 1 ["_law_found"] spWhole) (C_law_run : Cal P w K mg base "_law_run" 4 ["_law_chores_here", "_law_hands", "_law_begin"] (spLRun K)) (C_law_ends : Cal P w K mg base "_law_ends" 1 ["_law_rows"] (spEnds K)) : Cal P w K mg base "_law_right" 13 ["_law_chores_here", "_law_hands", "_law_begin"] (spRight K tT) := by
  refine D.cal (D.F.ok sc_law_right (fun vs H Q E h => ?_) (fun cdv A outer s H vs Q E hr h => ?_))
  · obtain ⟨l, xs, h, b, rfl, _⟩ := h
    rfl
  obtain ⟨l, xs, h, b, rfl, hI, h0, b0, b1, hT, q⟩ := h
  refine ⟨_, (pss_cons (ps_set (i := 3) sc_law_right.nd rfl (Or.inl rfl) (pe_cal C_law_run (hr.mono (by decide)) rfl (pa_cons (pv 0) (pa_cons (pv 1) (pa_cons (pv 2) pa_nil)))))
      (pss_cons (ps_set (i := 4) sc_law_right.nd rfl (Or.inr rfl) (pe_cal C_law_ends (hr.mono (by decide)) rfl (pa_cons (pv 3) pa_nil)))
      (pss_cons (ps_for PassesOwn.never rfl (pi_range1 rfl T.b_range (pa_cons pe_int pa_nil)) (pg_name (i := 5) sc_law_right.nd rfl (Or.inl rfl)) (pss_cons (ps_set (i := 6) sc_law_right.nd rfl (Or.inl rfl) (pe_cal C_latest_all (hr.mono (by decide)) rfl (pa_cons (pv 0) (pa_cons (pv 1) (pa_cons (pv 2) pa_nil)))))
      (pss_thaw (ps_if (PW.pt (pw_or (pt_not (pt_val (pe_callB (call_isYT (n := "dict")) rfl T.b_isinstance bt_isinstance (pa_cons (pv 6) (pa_cons (pe_bltn (v := .ty "dict") rfl T.b_dict bt_dict rfl) pa_nil))))) (pw_or (pt_cmpR (op_neI hr.units1) (pv 6) (pv 4) (nomark _)) (pw_or1 (pt_not (pt_val (pe_callB (call_allB rfl) rfl T.b_all bt_all (pa_cons (pe_comp (N := ["_law_turn_here"]) (js := []) rfl (CompScope.of rfl rfl rfl rfl rfl (by decide +kernel) rfl rfl rfl rfl) (pi_vals (pe_bm0 PySem.F.plainAttrs_dict PySem.F.slot_dict_values PySem.F.type_dict_values mt_dvals (pv 6))) (fun _ _ _ _ _ => ct_nil) (fun _ _ _ _ _ => (pe_cal C_law_whole (hr.mono (by decide)) rfl (pa_cons (pv 0) pa_nil)))) pa_nil)))))))) (pss_one (ps_ret pe_bl)) pss_nil)
      (pss_one (ps_expr (pe_bm0 PySem.F.plainAttrs_dict PySem.F.slot_dict_clear PySem.F.type_dict_clear mt_dclear (pv 6)))))))
      (pss_cons (ps_for PassesOwn.never rfl (pi_list (pe_slice sl_listS (pe_callTy (call_listD hr.hd) rfl T.b_list bt_list (pa_cons (pv 4) pa_nil)) po_none (po_some pe_int))) (pg_name (i := 7) sc_law_right.nd rfl (Or.inr rfl)) (pss_cons (ps_set (i := 8) sc_law_right.nd rfl (Or.inl rfl) (pe_cal1 C_latest_of passesE0 (hr.mono (by decide)) rfl (pai (pai_cons (pv 0) (pai_cons (pv 1) (pai_cons (pv 2) (pai_cons (pv 7) pai_nil)))))))
      (pss_cons (ps_setC (i := 9) (N := ["_law_row", "_law_ends_here", "_law_number"]) (js := [4, 7]) sc_law_right.nd rfl rfl rfl (CompScope.of rfl rfl rfl rfl rfl (by decide +kernel) rfl rfl rfl rfl) (pi_list (pv 3)) (fun _ _ _ _ _ => (ct_one (pt_cmpR op_le (pe_ix (r := rIxT K) ix_tup (pv 0) pe_int (fun _ _ => rfl)) (pe_dget hr.units1 (pv 1) (pv 2) (fun _ _ => rfl)) (nomark _)))) (fun _ _ _ _ _ => (pv 0)))
      (pss_cons (ps_set (i := 6) sc_law_right.nd rfl (Or.inl rfl) (pe_cal1 C_witness_run passesE0 (hr.mono (by decide)) rfl (pai (pai_cons (pv 0) (pai_cons (pv 1) (pai_cons (pv 2) (pai_cons (pv 7) pai_nil)))))))
      (pss_cons (ps_if (PW.pt (pw_or (pt_not (pt_val (pe_cal C_law_whole (hr.mono (by decide)) rfl (pa_cons (pv 8) pa_nil)))) (pw_or (pt_cmpR op_ne (pv 8) (pe_dget hr.units1 (pv 4) (pv 7) (fun _ _ => rfl)) (nomark _)) (pw_or1 (pt_cmpR (op_neD 9 hr.units9) (pv 6) (pv 9) (nomark _)))))) (pss_one (ps_ret pe_bl)) pss_nil)
      (pss_cons (ps_for PassesOwn.never rfl (pi_list (pv 6)) (pg_tup rfl (pgs_cons (pg_name (i := 10) sc_law_right.nd rfl (Or.inl rfl)) (pgs_cons (pg_name (i := 11) sc_law_right.nd rfl (Or.inl rfl)) pgs_nil))) (pss_one (ps_expr (pe_bm PySem.F.plainAttrs_list PySem.F.slot_list_append PySem.F.type_list_append mt_appendS (pv 11) (pa_cons pe_int pa_nil)))))
      (pss_one (ps_if (pt_cmpR (op_neD 9 hr.units9) (pe_cal1 C_witness_run passesE0 (hr.mono (by decide)) rfl (pai (pai_cons (pv 0) (pai_cons (pv 1) (pai_cons (pv 2) (pai_cons (pv 7) pai_nil)))))) (pv 9) (nomark _)) (pss_one (ps_ret pe_bl)) pss_nil))))))))
      (pss_one (ps_ret pe_bl)))))), ?_⟩
  refine ⟨_, rfl, _, rfl, _, rfl, l, xs, h, b, rfl, hI, h0, b0, b1, fun D H1 rs s1 nD R l40 l14 => ?_⟩
  refine ⟨_, rfl, D, rs, rfl, R.run, l40, l14, fun e H2 s2 ne he => ?_⟩
  have hE := R.lat (d := e) l40 l14 he
  have R2 := R.run.same s2
  have s02 := s1.trans s2
  generalize hL : lastI (rowsOf rs) [] = L at he hE
  refine ⟨_, rfl, by decide, by decide, ?_⟩
  refine for_range (fun _ σ H' => ∃ v5 v6 : Option V, σ = [some (.ref l), some (.int h), some (.int b), some (.ref D), some (.ref e), v5, v6, none, none, none, none, none] ∧ Same H2 H') ⟨_, _, rfl, Same.refl _⟩ ?_ ?_
  · rintro i σ H3 hi ⟨v5, v6, rfl, s3⟩
    have s03 := s02.trans s3
    refine ⟨_, rfl, _, rfl, _, rfl, l, xs, h, b, rfl, hI.same s03, h0, b0, b1, s03 _ _ hT, fun d H4 L4 s4 nd hA => ?_⟩
    have eL := (hE.same (s3.trans s4)).alike hA
    subst eL
    refine ⟨fun σ' H' => ∃ ob, σ' = [some (.ref l), some (.int h), some (.int b), some (.ref D), some (.ref e), some (.int (0 + (i : Int))), some (.ref d), none, none, none, none, none] ∧ But d H4 H' ∧ H' d = some (.frz ob (.dK (dI L))), ?_, ?_⟩
    · refine ⟨_, rfl, _, _, _, rfl, .old (.dK hA.at_), T.q_dict_dict, _, rfl, iteF ?_⟩
      refine ⟨_, rfl, _, rfl, d, e, L, rfl, rfl, .inl hA.at_, .inl (s4 _ _ (s3 _ _ he)), _, rfl, iteF ?_⟩
      refine ⟨_, rfl, .inr (.inr (.inl ⟨rfl, .inl ⟨_, hA.at_⟩⟩)), d, _, rfl, rfl, hA.at_, fun v H5 s5 nv hv => ⟨v, d, _, rfl, hv, s5 _ _ hA.at_, fun ob H6 k6 h6 => ?_⟩⟩
      refine comp_vals (fun _ => true) (fun _ => V.bl true) h6 (fun i kv Hh Q' hx sh q' => q' Hh (Same.refl _)) ?_ hA.len (fun D7 H7 s7 nD7 hD7 => ?_)
      · intro i kv Hh Q' hi _ sh q'
        unfold dI at hi
        rw [List.getElem?_map] at hi
        cases ek : L[i]? with
        | none => rw [ek] at hi; cases hi
        | some p =>
          rw [ek] at hi
          cases hi
          exact ⟨_, rfl, p.2, rfl, q' Hh (Same.refl _)⟩
      have hD7 : H7 D7 = some (.lst (((List.range (dI L).length).map fun _ => true).map V.bl)) := by
        rw [hD7, filter_all, List.map_map]
        rfl
      refine ⟨D7, _, rfl, SqL.of hD7, _, rfl, ?_⟩
      have al : ((List.range (dI L).length).map fun _ => true).all id = true := by
        rw [List.all_eq_true]
        intro b hb
        obtain ⟨_, _, rfl⟩ := List.mem_map.mp hb
        rfl
      rw [al]
      exact iteF ⟨ob, rfl, s5.toBut.trans (k6.trans s7.toBut), s7 _ _ h6⟩
    · rintro σ' H5 ⟨ob, rfl, k5, h5⟩
      have nd2 : H2 d = none := Same.free s3 nd
      refine ⟨d, ob, _, h5, Same.free s02 nd2, fun H6 k6 h6 => ?_⟩
      refine ⟨_, rfl, .inr (.inr (.inl ⟨rfl, .inl ⟨_, h6⟩⟩)), d, _, rfl, rfl, h6, fun H7 k7 h7 => ?_⟩
      exact ⟨_, _, rfl, (s3.trans s4).but nd2 (k5.trans (k6.trans k7))⟩
  · rintro σ H3 ⟨v5, v6, rfl, s3⟩
    have s03 := s02.trans s3
    refine ⟨_, rfl, e, _, rfl, .inl (s3 _ _ he), fun l4 H4 s4 n4 h4 => ⟨_, rfl, l4, _, rfl, SqL.of h4, fun l5 H5 s5 n5 h5 => ⟨l5, rfl, ⟨_, SqL.of h5⟩, ?_⟩⟩⟩
    have s25 := s3.trans (s4.trans s5)
    refine for_list (K := K) (a := l5) (xs := cutV ((dI L).map fun kv => kV kv.1) none (some 4)) (fun i σ H' => ∃ w6 w7 w8 w9 w10 w11 : Option V, σ = [some (.ref l), some (.int h), some (.int b), some (.ref D), some (.ref e), v5, w6, w7, w8, w9, w10, w11] ∧ Same H5 H')
      ⟨_, _, _, _, _, _, rfl, Same.refl _⟩ (fun i σ H' _ ⟨_, _, _, _, _, _, _, s⟩ => SqL.of (s _ _ h5)) ?_ ?_
    · rintro i y σ H6 hi ⟨w6, w7, w8, w9, w10, w11, rfl, s6⟩
      have hy := mem_cut (List.mem_of_getElem? hi)
      obtain ⟨kv, hkv, rfl⟩ := List.mem_map.mp hy
      obtain ⟨p, hp, rfl⟩ := List.mem_map.mp hkv
      have s26 := s25.trans s6
      have s06 := s02.trans s26
      obtain ⟨k, hk, pos, ep⟩ := lat_key hE hp
      obtain ⟨u, hu⟩ := hE.val (List.mem_map.mpr ⟨k, hk, rfl⟩) pos
      have hI6 := hI.same s06
      have eP : V.int p.1 = V.int k.2.1.n := by rw [ep]
      refine ⟨_, rfl, _, rfl, _, rfl, _, rfl, l, xs, h, b, _, rfl, hI6, h0, b0, b1, s06 _ _ hT, .inl ⟨k, hk, pos, eP, fun u7 d7 H7 L7 s7 hA7 hu7 => ?_⟩⟩
      have eL := (hE.same (s26.trans s7)).alike hA7
      subst eL
      rw [hu] at hu7
      cases hu7
      have s27 := s26.trans s7
      have R7 := R2.same s27
      have mr : (rs.map fun r => V.ref r.1).length = rs.length := List.length_map _
      have big : (rs.map fun r => V.ref r.1).length < sizeLine := by
        rw [mr]
        have z : (100000 : Nat) ≤ sizeLine := by decide
        omega
      refine ⟨_, rfl, D, rfl, ⟨_, SqL.of R7.at_⟩, ?_⟩
      have gE : ∀ Hh, Same H2 Hh → DGet Hh e (.int p.1) (some (.int u)) := fun Hh sh => by
        have g := dget_I (.inl (sh _ _ he)) p.1
        rw [ep, hu] at g
        rw [ep]
        exact g
      refine comp_list (xs := rs.map fun r => V.ref r.1) (tak rs fun r => decide (r.2.2.1 ≤ u)) (itm rs fun r => V.ref r.1) (SqL.of R7.at_) ?_ ?_ big (fun D8 H8 s8 nD8 hD8 => ?_)
      · intro i y Hh Q' hi sh q'
        rw [List.getElem?_map] at hi
        cases er : rs[i]? with
        | none => rw [er] at hi; cases hi
        | some r =>
          rw [er] at hi
          cases hi
          have z := q' Hh (Same.refl _)
          unfold tak at z
          rw [er] at z
          exact ⟨_, rfl, r.1, _, _, _, rfl, rfl, SqT.of (sh _ _ (R7.row r (List.mem_of_getElem? er))), rfl, _, rfl, _, rfl, e, _, rfl, gE Hh (s27.trans sh), _, _, rfl, rfl, _, rfl, z⟩
      · intro i y Hh Q' hi _ sh q'
        rw [List.getElem?_map] at hi
        cases er : rs[i]? with
        | none => rw [er] at hi; cases hi
        | some r =>
          rw [er] at hi
          cases hi
          have z := q' Hh (Same.refl _)
          unfold itm at z
          rw [er] at z
          exact ⟨_, rfl, z⟩
      rw [mr, tak_fil] at hD8
      have RD8 : IsRun H8 D8 (rs.filter fun r => decide (r.2.2.1 ≤ u)) := (R7.same s8).cut hD8
      have s28 := s27.trans s8
      have s08 := s02.trans s28
      refine ⟨_, rfl, _, rfl, _, rfl, _, rfl, l, xs, h, b, _, rfl, hI.same s08, h0, b0, b1, s08 _ _ hT, .inl ⟨k, hk, pos, eP, fun D9 D0 H9 qs u9 s9 nD9 R9 m40 m14 hu9 ne9 RD9 => ?_⟩⟩
      have eq9 : rowsOf qs = rowsOf rs := R9.alike R
      rw [eq9, hL, hu] at hu9
      cases hu9
      have s29 := s28.trans s9
      refine ⟨_, rfl, u, rfl, _, rfl, iteF ?_⟩
      refine ⟨_, rfl, _, rfl, _, rfl, e, _, rfl, gE _ s29, rfl, _, rfl, ?_⟩
      refine ite2 (fun c => by simp at c) (fun _ => ?_)
      refine ⟨_, rfl, _, rfl, rows_alike RD9 (RD8.same s9) (run_rows_eq eq9 u), _, rfl, iteF ?_⟩
      refine ⟨_, rfl, D9, rfl, ⟨_, SqL.of RD9.at_⟩, ?_⟩
      generalize hfs : (qs.filter fun r => decide (r.2.2.1 ≤ u)) = fs at RD9
      have fq : ∀ r, r ∈ fs → r ∈ qs := fun r hr => by
        rw [← hfs] at hr
        exact (List.mem_filter.mp hr).1
      have nl : ∀ r, r ∈ fs → ∀ t xs, H9 t = some (.tup xs) → t ≠ r.2.1 := fun r hr t xs g z => by
        rw [z, RD9.num r hr] at g
        cases g
      refine for_list (K := K) (a := D9) (xs := fs.map fun r => V.ref r.1) (fun i σ H' => ∃ x10 x11 : Option V, σ = [some (.ref l), some (.int h), some (.int b), some (.ref D), some (.ref e), v5, some (.ref D9), some (.int p.1), some (.int u), some (.ref D8), x10, x11] ∧ (∀ b o, (∀ r, r ∈ fs → b ≠ r.2.1) → H9 b = some o → H' b = some o) ∧ ∀ r, r ∈ fs → ∃ ws, H' r.2.1 = some (.lst ws) ∧ ws.length ≤ 40 + i)
        ⟨_, _, rfl, fun b o _ g => g, fun r hr => ⟨_, RD9.num r hr, by rw [List.length_map]; exact m40 r (fq r hr)⟩⟩ (fun i σ H' _ ⟨_, _, _, s, _⟩ => SqL.of (s _ _ (fun r hr z => ne9 r (fq r hr) z.symm) RD9.at_)) ?_ ?_
      · rintro j y σ H10 hj ⟨x10, x11, rfl, s10, w10⟩
        rw [List.getElem?_map] at hj
        cases er : fs[j]? with
        | none => rw [er] at hj; cases hj
        | some r =>
          rw [er] at hj
          cases hj
          have hr := List.mem_of_getElem? er
          have jl : j < fs.length := (List.getElem?_eq_some_iff.mp er).1
          have fl : fs.length ≤ 1481 := by
            rw [← hfs]
            exact Nat.le_trans (List.length_filter_le _ _) m14
          have row := s10 _ _ (fun r' hr' => nl r' hr' _ _ (RD9.row r hr)) (RD9.row r hr)
          obtain ⟨ws, hws, lw⟩ := w10 r hr
          refine ⟨r.1, _, rfl, SqT.of row, rfl, _, _, rfl, _, _, rfl, rfl, ?_⟩
          refine ⟨_, rfl, .inl ⟨rfl, _, SqL.of hws⟩, r.2.1, _, _, rfl, rfl, hws, ?_, fun H11 k11 h11 => ?_⟩
          · have z : (100000 : Nat) ≤ sizeLine := by decide
            omega
          refine ⟨_, _, rfl, fun b o nb g => k11 _ _ (nb r hr) (s10 b o nb g), fun r' hr' => ?_⟩
          obtain ⟨ws', hws', lw'⟩ := w10 r' hr'
          by_cases z : r'.2.1 = r.2.1
          · exact ⟨_, by rw [z]; exact h11, by rw [List.length_append]; show ws.length + 1 ≤ _; omega⟩
          · exact ⟨ws', k11 _ _ z hws', by omega⟩
      · rintro σ H10 ⟨x10, x11, rfl, s10, _⟩
        have s810 : Same H8 H10 := fun b o g => s10 b o (fun r hr z => by
          have := R9.new r (fq r hr)
          rw [← z, g] at this
          cases this) (s9 b o g)
        have s210 := s28.trans s810
        have s010 := s02.trans s210
        refine ⟨_, rfl, _, rfl, _, rfl, _, rfl, l, xs, h, b, _, rfl, hI.same s010, h0, b0, b1, s010 _ _ hT, .inl ⟨k, hk, pos, eP, fun D12 D02 H12 ps u12 s12 nD12 R12 _ _ hu12 _ RD12 => ?_⟩⟩
        have eq12 : rowsOf ps = rowsOf rs := R12.alike R
        rw [eq12, hL, hu] at hu12
        cases hu12
        refine ⟨_, rfl, rows_alike RD12 ((RD8.same s810).same s12) (run_rows_eq eq12 u), _, rfl, iteF ?_⟩
        exact ⟨_, _, _, _, _, _, rfl, s6.trans (s7.trans (s8.trans (s810.trans s12)))⟩
    · rintro σ H6 ⟨w6, w7, w8, w9, w10, w11, rfl, s6⟩
      exact q H6 (s02.trans (s25.trans s6))
theorem log_small {n : Int} (h0 : 0 ≤ n) (h1 : n < 97) : n.natAbs.log2 < 1920 := by
  by_cases z : n.natAbs = 0
  · rw [z]
    decide
  · have : n.natAbs < 2 ^ 7 := by
      have : (2 : Nat) ^ 7 = 128 := by decide
      omega
    have := (Nat.log2_lt z).mpr this
    omega
structure Bad (K : PySem.W.Frag) (H : Hp) (xs : List (Addr × Cl × Int)) (v : V) : Prop where
  no : NoPc K H xs v
  sh : ∃ y, Shw K H v y
theorem Bad.same {H H' : Hp} {xs : List (Addr × Cl × Int)} {v : V} (s : Same H H') (h : Bad K H xs v) : Bad K H' xs v := ⟨h.no.same s, let ⟨y, sh⟩ := h.sh; ⟨y, sh.same s⟩⟩
theorem sc_law : FnScope ["_law_script", "_law_k", "_law_cell", "_law_chores_here", "_law_hands", "_law_begin", "_law_handed", "_law_none", "_law_things", "_law_thing"] ["_law_script"] (defScope s_law) := ⟨rfl, rfl, rfl, by decide +kernel, rfl, by decide +kernel, by decide +kernel⟩
theorem ok_law (D : Dfn K mg "law" s_law ["_law_script"] f fd) (T : Txt K mg c_WaitError c_NoPiece c_NoEnd) (C_law_case : Cal P w K mg base "_law_case" 5 ["_law_cell", "_law_most"] (spCase K)) (C_law_refused : Cal P w K mg base "_law_refused" 13 ["_law_chores_here", "_law_hands", "_law_begin", "_law_thing"] (spRef K tT)) (C_law_right : Cal P w K mg base "_law_right" 13 ["_law_chores_here", "_law_hands", "_law_begin"] (spRight K tT)) : FnOk P w K mg base CX0 14 f fd ["_law_script"] (spLaw K tT) := by
  refine D.F.ok sc_law (fun vs H Q E h => ?_) (fun cdv A outer s H vs Q E hr h => ?_)
  · obtain ⟨a, ns, rfl, _⟩ := h
    rfl
  obtain ⟨a, ns, rfl, hS, h63, hT, q⟩ := h
  refine ⟨_, (pss_cons (ps_for PassesOwn.never rfl (pi_enum rfl T.b_enumerate (pa_cons (pe_op op_catS (pe_slice sl_listS (pv 0) po_none (po_some pe_int)) (pe_lstS (pa_cons pe_int pa_nil))) pa_nil)) (pg_tup rfl (pgs_cons (pg_name (i := 1) sc_law.nd rfl (Or.inl rfl)) (pgs_cons (pg_name (i := 2) sc_law.nd rfl (Or.inl rfl)) pgs_nil))) (pss_cons (ps_asg (pe_cal C_law_case (hr.mono (by decide)) rfl (pa_cons (pv 2) (pa_cons (pe_ix ix_list (pe_lstS (pa_cons pe_int (pa_cons pe_int pa_nil))) (pe_callTy call_int1 rfl T.b_int bt_int (pa_cons (pe_cmpR op_gt (pv 1) pe_int (nomark _)) pa_nil)) (fun _ _ => rfl)) pa_nil))) (pg_tup rfl (pgs_cons (pg_name (i := 3) sc_law.nd rfl (Or.inl rfl)) (pgs_cons (pg_name (i := 4) sc_law.nd rfl (Or.inl rfl)) (pgs_cons (pg_name (i := 5) sc_law.nd rfl (Or.inl rfl)) pgs_nil)))))
      (pss_cons (ps_set (i := 6) sc_law.nd rfl (Or.inl rfl) (pe_callTy call_lstS rfl T.b_list bt_list (pa_cons (pv 3) pa_nil)))
      (pss_cons (ps_if (PW.pt (pw_or (pt_not (pt_val (pe_cal C_law_right (hr.mono (by decide)) rfl (pa_cons (pv 6) (pa_cons (pv 4) (pa_cons (pv 5) pa_nil)))))) (pw_or1 (pt_cmpR (op_neD 9 hr.units9) (pv 6) (pv 3) (nomark _))))) (pss_one (ps_ret pe_bl)) pss_nil)
      (pss_cons (ps_set (i := 7) sc_law.nd rfl (Or.inl rfl) (pe_slice sl_listS (pe_compT (nk := 2) (g := (gTup K 2 (gCons (gName 0) (gCons (gName 1) gNil)))) (N := ["_law_claim", "_law_left"]) (js := []) rfl (CompScopeN.of rfl rfl rfl rfl rfl (by decide +kernel) rfl rfl rfl) (fun _ _ _ _ _ hn => (pg_tup rfl (pgs_cons (hn 0 _ _ rfl (by decide)) (pgs_cons (hn 1 _ _ rfl (by decide)) pgs_nil)))) (pi_list (pv 3)) (fun _ _ _ _ _ => (ct_one (pt_cmpR op_eq (pv 1) pe_int (nomark _)))) (fun _ _ _ _ _ => (pe_ix (r := rIxT K) ix_tup (pv 0) pe_int (fun _ _ => rfl)))) po_none (po_some pe_int)))
      (pss_cons (ps_set (i := 8) sc_law.nd rfl (Or.inl rfl) (pe_op op_catS (pv 7) (pe_lstS (pai (pai_cons pe_int (pai_cons (pe_un un_neg pe_int) (pai_cons (pe_op op_pow pe_int pe_int) (pai_cons pe_non (pai_cons pe_bl (pai_cons pe_bl (pai_cons pe_str (pai_cons (pe_lstS (pa_cons pe_int pa_nil)) (pai_cons (pe_tupS (pa_cons pe_int pa_nil)) pai_nil)))))))))))))
      (pss_one (ps_for PassesOwn.never rfl (pi_list (pe_slice sl_listS (pv 8) po_none (po_some (pe_ix ix_list (pe_lstS (pa_cons pe_int (pa_cons pe_int pa_nil))) (pe_callTy call_int1 rfl T.b_int bt_int (pa_cons (pe_cmpR op_gt (pe_callB call_len_seq rfl T.b_len bt_len (pa_cons (pv 3) pa_nil)) pe_int (nomark _)) pa_nil)) (fun _ _ => rfl))))) (pg_name (i := 9) sc_law.nd rfl (Or.inl rfl)) (pss_one (ps_if (pt_not (pt_val (pe_cal C_law_refused (hr.mono (by decide)) rfl (pai (pai_cons (pv 6) (pai_cons (pv 4) (pai_cons (pv 5) (pai_cons (pv 9) pai_nil)))))))) (pss_one (ps_ret pe_bl)) pss_nil))))))))))
      (pss_one (ps_ret pe_bl))), ?_⟩
  obtain ⟨ms, ems⟩ := cut_ints ns none (some 8)
  have ml : ms.length ≤ 63 := by
    have := congrArg List.length ems
    rw [List.length_map] at this
    have c : (cutV (ns.map V.int) none (some 8)).length ≤ (ns.map V.int).length := by
      unfold cutV
      rw [List.length_take, List.length_drop]
      omega
    rw [List.length_map] at c
    omega
  refine ⟨_, rfl, _, rfl, a, _, rfl, hS, fun l1 H1 s1 n1 h1 => ?_⟩
  rw [ems] at h1
  refine ⟨sz 1 (by decide), fun l2 H2 s2 n2 h2 => ⟨l1, l2, _, _, rfl, rfl, s2 _ _ h1, h2, ?_, fun l3 H3 s3 n3 h3 => ?_⟩⟩
  · rw [List.length_map]
    have z : (1000 : Nat) ≤ sizeLine := by decide
    show ms.length + 1 ≤ _
    omega
  have e3 : ms.map V.int ++ [V.int 5] = (ms ++ [5]).map V.int := by rw [List.map_append]; rfl
  rw [e3] at h3
  have s03 := s1.trans (s2.trans s3)
  refine ⟨l3, rfl, ⟨_, SqL.of h3⟩, ?_⟩
  refine for_enum (K := K) (a := l3) (xs := (ms ++ [5]).map V.int) (fun i σ H' => ∃ v1 v2 v3 v4 v5 v6 v7 v8 v9 : Option V, σ = [some (.ref a), v1, v2, v3, v4, v5, v6, v7, v8, v9] ∧ Same H3 H')
    ⟨_, _, _, _, _, _, _, _, _, rfl, Same.refl _⟩ (fun i σ H' _ ⟨_, _, _, _, _, _, _, _, _, _, s⟩ => SqL.of (s _ _ h3)) ?_ ?_
  · rintro i y σ H4 p H5 hi ⟨v1, v2, v3, v4, v5, v6, v7, v8, v9, rfl, s4⟩ s5 n5 h5
    rw [List.getElem?_map] at hi
    cases ek : (ms ++ [5])[i]? with
    | none => rw [ek] at hi; cases hi
    | some cell =>
      rw [ek] at hi
      cases hi
      refine ⟨p, _, rfl, SqT.of h5, rfl, _, _, rfl, _, _, rfl, rfl, ?_⟩
      refine ⟨_, rfl, sz 2 (by decide), fun l6 H6 s6 n6 h6 => ⟨_, rfl, _, _, rfl, rfl, .inr ⟨_, rfl, ?_⟩⟩⟩
      have hv : ∃ mo : Int, atI [V.int 13, V.int 7] (if decide ((0 : Int) < (i : Int)) = true then 1 else 0) = some (.int mo) ∧ 0 < mo ∧ mo ≤ 13 := by
        cases decide ((0 : Int) < (i : Int)) with
        | false => exact ⟨13, rfl, by decide, by decide⟩
        | true => exact ⟨7, rfl, by decide, by decide⟩
      obtain ⟨mo, em, mo0, mo1⟩ := hv
      refine ⟨l6, _, _, _, rfl, rfl, SqL.of h6, em, cell, mo, rfl, mo0, mo1, fun p7 l xs h b H7 s7 hp nl hI h0 b0 b1 h97 => ?_⟩
      refine ⟨p7, _, rfl, SqT.of hp, rfl, _, _, rfl, _, _, rfl, _, _, rfl, rfl, ?_⟩
      have s07 := s03.trans (s4.trans (s5.trans (s6.trans s7)))
      refine ⟨_, rfl, l, _, rfl, .inl (SqL.of hI.chs.at_), fun lh H8 s8 n8 h8 => ?_⟩
      have hI8 := hI.same s8
      have hIh : ChIn K H8 lh xs := ⟨⟨h8, hI8.chs.ch⟩, hI8.len, hI8.ok, hI8.nd⟩
      have s08 := s07.trans s8
      refine ⟨_, rfl, _, rfl, _, rfl, lh, xs, h, b, rfl, hIh, h0, b0, by omega, s08 _ _ hT, fun H9 s9 => ⟨_, rfl, iteF ?_⟩⟩
      have hI9 := hI8.same s9
      have hIh9 := hIh.same s9
      refine ⟨_, rfl, _, rfl, ⟨lh, l, _, _, rfl, rfl, .inr ⟨SqL.of hIh9.chs.at_, SqL.of hI9.chs.at_⟩, rfl, fun j u v hu hv => ?_⟩, _, rfl, iteF ?_⟩
      · rw [hu] at hv
        cases hv
        rw [List.getElem?_map] at hu
        cases e : xs[j]? with
        | none => rw [e] at hu; cases hu
        | some y =>
          rw [e] at hu
          cases hu
          exact Deq.ref _ _
      have mx : (xs.map fun q => V.ref q.1).length = xs.length := List.length_map _
      have x40 := hI.len
      refine ⟨_, rfl, l, rfl, ⟨_, SqL.of hI9.chs.at_⟩, ?_⟩
      refine comp_listG (xs := xs.map fun q => V.ref q.1) (sts 2 xs fun k => [.ref (kcOf H9 k.1), .int k.2.2]) (tak xs fun k => decide (V.int k.2.2 = V.int 0)) (itm xs fun k => V.int k.2.1.n) (SqL.of hI9.chs.at_) (sts_len fun _ => rfl) ?_ ?_ ?_ (small1000 (by rw [mx]; omega)) (fun D10 H10 s10 nD10 hD10 => ?_)
      · intro j x Hh os R' hxj sh ol r'
        obtain ⟨o1, o2, rfl⟩ := len2 ol
        rw [List.getElem?_map] at hxj
        cases ek : xs[j]? with
        | none => rw [ek] at hxj; cases hxj
        | some k =>
          rw [ek] at hxj
          cases hxj
          unfold sts at r'
          rw [ek] at r'
          exact ⟨k.1, _, rfl, SqT.of (sh _ _ (hI9.chs.ch k (List.mem_of_getElem? ek)).kc.1), rfl, _, _, rfl, _, _, rfl, rfl, r'⟩
      · intro j x Hh Q' hj sh q'
        rw [List.getElem?_map] at hj
        cases e : xs[j]? with
        | none => rw [e] at hj; cases hj
        | some k =>
          rw [e] at hj
          cases hj
          have z := q' Hh (Same.refl _)
          unfold tak at z
          unfold sts
          rw [e] at z ⊢
          exact ⟨_, rfl, rfl, _, rfl, z⟩
      · intro j x Hh Q' hj _ sh q'
        rw [List.getElem?_map] at hj
        cases e : xs[j]? with
        | none => rw [e] at hj; cases hj
        | some k =>
          rw [e] at hj
          cases hj
          have z := q' Hh (Same.refl _)
          unfold itm at z
          unfold sts
          rw [e] at z ⊢
          obtain ⟨k1, k2⟩ := (hI9.chs.ch k (List.mem_of_getElem? e)).kc
          obtain ⟨_, _, c1, _, _⟩ := id k2.ex
          exact ⟨_, rfl, _, _, _, _, rfl, rfl, SqT.of (sh _ _ c1), rfl, z⟩
      rw [mx, tak_fil] at hD10
      refine ⟨_, rfl, D10, _, rfl, SqL.of hD10, fun l11 H11 s11 n11 h11 => ?_⟩
      refine ⟨_, rfl, _, rfl, _, _, rfl, rfl, ⟨by decide, by decide, by decide⟩, sz 1 (by decide), fun l12 H12 s12 n12 h12 => ⟨sz 1 (by decide), fun l13 H13 s13 n13 h13 => ⟨sz 9 (by decide), fun l14 H14 s14 n14 h14 => ?_⟩⟩⟩
      have s1114 := s12.trans (s13.trans s14)
      have cl : (cutV ((xs.filter fun k => decide (V.int k.2.2 = V.int 0)).map fun k => V.int k.2.1.n) none (some 2)).length ≤ 40 := by
        unfold cutV
        rw [List.length_take, List.length_drop, List.length_map]
        have : (xs.filter fun k => decide (V.int k.2.2 = V.int 0)).length ≤ xs.length := List.length_filter_le _ _
        omega
      refine ⟨l11, l14, _, _, rfl, rfl, s1114 _ _ h11, h14, ?_, fun l15 H15 s15 n15 h15 => ?_⟩
      · have z : (1000 : Nat) ≤ sizeLine := by decide
        show _ + 9 ≤ _
        omega
      have hb12 : H15 l12 = some (.lst [.int 1]) := s15 _ _ (s14 _ _ (s13 _ _ h12))
      have hb13 : H15 l13 = some (.tup [.int 1]) := s15 _ _ (s14 _ _ h13)
      have bad : ∀ v, v ∈ (cutV ((xs.filter fun k => decide (V.int k.2.2 = V.int 0)).map fun k => V.int k.2.1.n) none (some 2) ++ [V.int 97, V.int (-1), V.int ((10 : Int) ^ (30 : Int).toNat), V.non, V.bl true, V.bl false, V.str "1", V.ref l12, V.ref l13]) → Bad K H15 xs v := by
        have big : ∀ n : Int, (n < 0 ∨ 97 ≤ n) → n.natAbs.log2 < 1920 → Bad K H15 xs (.int n) := fun n hn hl => ⟨.inr ⟨n, rfl, fun k hk _ => by
          have := h97 k hk
          have := (hI.ok k hk).ok.n0
          omega⟩, _, .int n hl⟩
        intro v hv
        rcases List.mem_append.mp hv with hv | hv
        · obtain ⟨k, hk, rfl⟩ := List.mem_map.mp (mem_cut hv)
          obtain ⟨k1, k2⟩ := List.mem_filter.mp hk
          have k0 : k.2.2 = 0 := V.int.inj (of_decide_eq_true k2)
          refine ⟨.inr ⟨_, rfl, fun j hj pj ej => ?_⟩, _, .int _ (log_small (hI.ok k k1).ok.n0 (h97 k k1))⟩
          have g := hI.gd.cl (List.mem_map.mpr ⟨j, hj, rfl⟩) (List.mem_map.mpr ⟨k, k1, rfl⟩) ej
          rw [g, k0] at pj
          cases pj
        · simp only [List.mem_cons, List.not_mem_nil, or_false] at hv
          rcases hv with rfl | rfl | rfl | rfl | rfl | rfl | rfl | rfl | rfl
          · exact big _ (.inr (by decide)) (by decide)
          · exact big _ (.inl (by decide)) (by decide)
          · exact big _ (.inr (by decide)) (by decide +kernel)
          · exact ⟨.inl ⟨_, .non, .inr ⟨T.q_NoneType_bool, T.q_NoneType_int⟩⟩, _, .non⟩
          · exact ⟨.inl ⟨_, .bl _, .inl T.q_bool_bool⟩, _, .bl _⟩
          · exact ⟨.inl ⟨_, .bl _, .inl T.q_bool_bool⟩, _, .bl _⟩
          · exact ⟨.inl ⟨_, .str _, .inr ⟨T.q_str_bool, T.q_str_int⟩⟩, _, .str _ (by decide +kernel)⟩
          · exact ⟨.inl ⟨_, .lst hb12, .inr ⟨T.q_list_bool, T.q_list_int⟩⟩, _, .lst 1 (SqL.of hb12) (by decide +kernel) (by decide +kernel)⟩
          · exact ⟨.inl ⟨_, .tup hb13, .inr ⟨T.q_tuple_bool, T.q_tuple_int⟩⟩, _, .tup 1 (SqT.of hb13) (by decide +kernel) (by decide +kernel)⟩
      have s915 := s10.trans (s11.trans (s1114.trans s15))
      have hI15 := hI9.same s915
      refine ⟨_, rfl, sz 2 (by decide), fun l16 H16 s16 n16 h16 => ⟨_, rfl, l, _, rfl, .inl (SqL.of (hI15.same s16).chs.at_), _, _, rfl, rfl, .inr ⟨_, rfl, ?_⟩⟩⟩
      have hv : ∀ bb : Bool, ∃ mo : Int, atI [V.int 11, V.int 4] (if bb = true then 1 else 0) = some (.int mo) := fun bb => by
        cases bb with
        | false => exact ⟨11, rfl⟩
        | true => exact ⟨4, rfl⟩
      obtain ⟨mo2, em2⟩ := hv (decide ((8 : Int) < ((xs.map fun q => V.ref q.1).length : Int)))
      refine ⟨l16, _, _, _, rfl, rfl, SqL.of h16, em2, _, rfl, l15, _, rfl, SqL.of (s16 _ _ h15), fun l17 H17 s17 n17 h17 => ⟨l17, rfl, ⟨_, SqL.of h17⟩, ?_⟩⟩
      have s1517 := s16.trans s17
      have s017 := s08.trans (s9.trans (s915.trans s1517))
      have hIh17 := hIh9.same (s915.trans s1517)
      refine for_list (K := K) (a := l17) (xs := cutV (cutV ((xs.filter fun k => decide (V.int k.2.2 = V.int 0)).map fun k => V.int k.2.1.n) none (some 2) ++ [V.int 97, V.int (-1), V.int ((10 : Int) ^ (30 : Int).toNat), V.non, V.bl true, V.bl false, V.str "1", V.ref l12, V.ref l13]) none (some mo2)) (fun j σ H' => ∃ v9 : Option V, σ = [some (.ref a), some (.int (i : Int)), some (.int cell), some (.ref l), some (.int h), some (.int b), some (.ref lh), some (.ref l11), some (.ref l15), v9] ∧ Same H17 H')
        ⟨_, rfl, Same.refl _⟩ (fun j σ H' _ ⟨_, _, s⟩ => SqL.of (s _ _ h17)) ?_ ?_
      · rintro j y σ H18 hj ⟨v9', rfl, s18⟩
        have bd := (bad y (mem_cut (List.mem_of_getElem? hj))).same (s1517.trans s18)
        exact ⟨_, rfl, _, rfl, _, rfl, _, rfl, lh, xs, h, b, y, rfl, hIh17.same s18, h0, b0, by omega, s18 _ _ (s017 _ _ hT), bd.no, bd.sh, fun H19 s19 => ⟨_, rfl, iteF ⟨_, rfl, s18.trans s19⟩⟩⟩
      · rintro σ H18 ⟨v9', rfl, s18⟩
        exact ⟨_, _, _, _, _, _, _, _, _, rfl, s4.trans (s5.trans (s6.trans (s7.trans (s8.trans (s9.trans (s915.trans (s1517.trans s18)))))))⟩
  · rintro σ H4 ⟨v1, v2, v3, v4, v5, v6, v7, v8, v9, rfl, s4⟩
    exact q H4
end
theorem all_mk {l : PySem.W.OpenLaw} {w : World} {K : PySem.W.Frag} {h : Heap} {mg : Str → Option Value} {fa f0 f1 f2 f3 f4 f5 f6 f7 f8 f9 f10 f11 f12 f13 f14 f15 f16 f17 f18 f19 f20 f21 f22 f23 f24 f25 f26 f27 f28 f29 f30 : Addr} (X : K.In h) (G : h.Ns mainGlobals mg) (hfa : mg "law" = some (.ref fa))
    {od0 an0 od1 an1 od2 an2 od3 an3 od4 an4 od5 an5 od6 an6 od7 an7 od8 an8 od9 an9 od10 an10 od11 an11 od12 an12 od13 an13 od14 an14 od15 an15 od16 an16 od17 an17 od18 an18 od19 an19 od20 an20 od21 an21 od22 an22 od23 an23 od24 an24 od25 an25 od26 an26 od27 an27 od28 an28 od29 an29 od30 an30 : Option Addr} {sl0 sl1 sl2 sl3 sl4 sl5 sl6 sl7 sl8 sl9 sl10 sl11 sl12 sl13 sl14 sl15 sl16 sl17 sl18 sl19 sl20 sl21 sl22 sl23 sl24 sl25 sl26 sl27 sl28 sl29 sl30 : Array (Option Value)} {oc0 kV0 dc0 pm0 cd0 ct0 oc1 kV1 dc1 pm1 cd1 ct1 oc2 kV2 dc2 pm2 cd2 ct2 oc3 kV3 dc3 pm3 cd3 ct3 oc4 kV4 dc4 pm4 cd4 ct4 oc5 kV5 dc5 pm5 cd5 ct5 oc6 kV6 dc6 pm6 cd6 ct6 oc7 kV7 dc7 pm7 cd7 ct7 oc8 kV8 dc8 pm8 cd8 ct8 oc9 kV9 dc9 pm9 cd9 ct9 oc10 kV10 dc10 pm10 cd10 ct10 oc11 kV11 dc11 pm11 cd11 ct11 oc12 kV12 dc12 pm12 cd12 ct12 oc13 kV13 dc13 pm13 cd13 ct13 oc14 kV14 dc14 pm14 cd14 ct14 oc15 kV15 dc15 pm15 cd15 ct15 oc16 kV16 dc16 pm16 cd16 ct16 oc17 kV17 dc17 pm17 cd17 ct17 oc18 kV18 dc18 pm18 cd18 ct18 oc19 kV19 dc19 pm19 cd19 ct19 oc20 kV20 dc20 pm20 cd20 ct20 oc21 kV21 dc21 pm21 cd21 ct21 oc22 kV22 dc22 pm22 cd22 ct22 oc23 kV23 dc23 pm23 cd23 ct23 oc24 kV24 dc24 pm24 cd24 ct24 oc25 kV25 dc25 pm25 cd25 ct25 oc26 kV26 dc26 pm26 cd26 ct26 oc27 kV27 dc27 pm27 cd27 ct27 oc28 kV28 dc28 pm28 cd28 ct28 oc29 kV29 dc29 pm29 cd29 ct29 oc30 kV30 dc30 pm30 cd30 ct30 : Value} {dt10 : Addr} {to10 : Obj} {tn10 : Nat}
    (a0 : PySem.W.nsIn K mainGlobals "is_whole" = some (some (.ref f0))) (l0 : K.lookup f0 = some ⟨oc0, od0, .func (PySem.W.fnOf "is_whole" "is_whole" (defArgs s_is_whole) (defBody s_is_whole) (defScope s_is_whole) .none kV0 dc0 pm0 an0 cd0 ct0), sl0⟩) (c0 : PySem.W.codeIn K cd0 "is_whole" = true) (k0 : PySem.W.keepIn K (.ref f0) = true)
    (a1 : PySem.W.nsIn K mainGlobals "common_divisor" = some (some (.ref f1))) (l1 : K.lookup f1 = some ⟨oc1, od1, .func (PySem.W.fnOf "common_divisor" "common_divisor" (defArgs s_common_divisor) (defBody s_common_divisor) (defScope s_common_divisor) .none kV1 dc1 pm1 an1 cd1 ct1), sl1⟩) (c1 : PySem.W.codeIn K cd1 "common_divisor" = true) (k1 : PySem.W.keepIn K (.ref f1) = true)
    (a2 : PySem.W.nsIn K mainGlobals "common_bottom" = some (some (.ref f2))) (l2 : K.lookup f2 = some ⟨oc2, od2, .func (PySem.W.fnOf "common_bottom" "common_bottom" (defArgs s_common_bottom) (defBody s_common_bottom) (defScope s_common_bottom) .none kV2 dc2 pm2 an2 cd2 ct2), sl2⟩) (c2 : PySem.W.codeIn K cd2 "common_bottom" = true) (k2 : PySem.W.keepIn K (.ref f2) = true)
    (a3 : PySem.W.nsIn K mainGlobals "place_key" = some (some (.ref f3))) (l3 : K.lookup f3 = some ⟨oc3, od3, .func (PySem.W.fnOf "place_key" "place_key" (defArgs s_place_key) (defBody s_place_key) (defScope s_place_key) .none kV3 dc3 pm3 an3 cd3 ct3), sl3⟩) (c3 : PySem.W.codeIn K cd3 "place_key" = true) (k3 : PySem.W.keepIn K (.ref f3) = true)
    (a4 : PySem.W.nsIn K mainGlobals "claims_in_order" = some (some (.ref f4))) (l4 : K.lookup f4 = some ⟨oc4, od4, .func (PySem.W.fnOf "claims_in_order" "claims_in_order" (defArgs s_claims_in_order) (defBody s_claims_in_order) (defScope s_claims_in_order) .none kV4 dc4 pm4 an4 cd4 ct4), sl4⟩) (c4 : PySem.W.codeIn K cd4 "claims_in_order" = true) (k4 : PySem.W.keepIn K (.ref f4) = true)
    (a5 : PySem.W.nsIn K mainGlobals "numbers_in_order" = some (some (.ref f5))) (l5 : K.lookup f5 = some ⟨oc5, od5, .func (PySem.W.fnOf "numbers_in_order" "numbers_in_order" (defArgs s_numbers_in_order) (defBody s_numbers_in_order) (defScope s_numbers_in_order) .none kV5 dc5 pm5 an5 cd5 ct5), sl5⟩) (c5 : PySem.W.codeIn K cd5 "numbers_in_order" = true) (k5 : PySem.W.keepIn K (.ref f5) = true)
    (a6 : PySem.W.nsIn K mainGlobals "numbers_worked" = some (some (.ref f6))) (l6 : K.lookup f6 = some ⟨oc6, od6, .func (PySem.W.fnOf "numbers_worked" "numbers_worked" (defArgs s_numbers_worked) (defBody s_numbers_worked) (defScope s_numbers_worked) .none kV6 dc6 pm6 an6 cd6 ct6), sl6⟩) (c6 : PySem.W.codeIn K cd6 "numbers_worked" = true) (k6 : PySem.W.keepIn K (.ref f6) = true)
    (a7 : PySem.W.nsIn K mainGlobals "chores_behind" = some (some (.ref f7))) (l7 : K.lookup f7 = some ⟨oc7, od7, .func (PySem.W.fnOf "chores_behind" "chores_behind" (defArgs s_chores_behind) (defBody s_chores_behind) (defScope s_chores_behind) .none kV7 dc7 pm7 an7 cd7 ct7), sl7⟩) (c7 : PySem.W.codeIn K cd7 "chores_behind" = true) (k7 : PySem.W.keepIn K (.ref f7) = true)
    (a8 : PySem.W.nsIn K mainGlobals "turn_done" = some (some (.ref f8))) (l8 : K.lookup f8 = some ⟨oc8, od8, .func (PySem.W.fnOf "turn_done" "turn_done" (defArgs s_turn_done) (defBody s_turn_done) (defScope s_turn_done) .none kV8 dc8 pm8 an8 cd8 ct8), sl8⟩) (c8 : PySem.W.codeIn K cd8 "turn_done" = true) (k8 : PySem.W.keepIn K (.ref f8) = true)
    (a9 : PySem.W.nsIn K mainGlobals "chores_taken" = some (some (.ref f9))) (l9 : K.lookup f9 = some ⟨oc9, od9, .func (PySem.W.fnOf "chores_taken" "chores_taken" (defArgs s_chores_taken) (defBody s_chores_taken) (defScope s_chores_taken) .none kV9 dc9 pm9 an9 cd9 ct9), sl9⟩) (c9 : PySem.W.codeIn K cd9 "chores_taken" = true) (k9 : PySem.W.keepIn K (.ref f9) = true)
    (a10 : PySem.W.nsIn K mainGlobals "run_of" = some (some (.ref f10))) (l10 : K.lookup f10 = some ⟨oc10, od10, .func (PySem.W.fnOf "run_of" "run_of" (defArgs s_run_of) (defBody s_run_of) (defScope s_run_of) (.ref dt10) kV10 dc10 pm10 an10 cd10 ct10), sl10⟩) (c10 : PySem.W.codeIn K cd10 "run_of" = true) (k10 : PySem.W.keepIn K (.ref f10) = true)
    (t10 : K.lookup dt10 = some to10) (u10 : to10.data = .seq #[.none] tn10)
    (a11 : PySem.W.nsIn K mainGlobals "is_piece_of" = some (some (.ref f11))) (l11 : K.lookup f11 = some ⟨oc11, od11, .func (PySem.W.fnOf "is_piece_of" "is_piece_of" (defArgs s_is_piece_of) (defBody s_is_piece_of) (defScope s_is_piece_of) .none kV11 dc11 pm11 an11 cd11 ct11), sl11⟩) (c11 : PySem.W.codeIn K cd11 "is_piece_of" = true) (k11 : PySem.W.keepIn K (.ref f11) = true)
    (a12 : PySem.W.nsIn K mainGlobals "check_piece" = some (some (.ref f12))) (l12 : K.lookup f12 = some ⟨oc12, od12, .func (PySem.W.fnOf "check_piece" "check_piece" (defArgs s_check_piece) (defBody s_check_piece) (defScope s_check_piece) .none kV12 dc12 pm12 an12 cd12 ct12), sl12⟩) (c12 : PySem.W.codeIn K cd12 "check_piece" = true) (k12 : PySem.W.keepIn K (.ref f12) = true)
    (a13 : PySem.W.nsIn K mainGlobals "last_turns" = some (some (.ref f13))) (l13 : K.lookup f13 = some ⟨oc13, od13, .func (PySem.W.fnOf "last_turns" "last_turns" (defArgs s_last_turns) (defBody s_last_turns) (defScope s_last_turns) .none kV13 dc13 pm13 an13 cd13 ct13), sl13⟩) (c13 : PySem.W.codeIn K cd13 "last_turns" = true) (k13 : PySem.W.keepIn K (.ref f13) = true)
    (a14 : PySem.W.nsIn K mainGlobals "latest_all" = some (some (.ref f14))) (l14 : K.lookup f14 = some ⟨oc14, od14, .func (PySem.W.fnOf "latest_all" "latest_all" (defArgs s_latest_all) (defBody s_latest_all) (defScope s_latest_all) .none kV14 dc14 pm14 an14 cd14 ct14), sl14⟩) (c14 : PySem.W.codeIn K cd14 "latest_all" = true) (k14 : PySem.W.keepIn K (.ref f14) = true)
    (a15 : PySem.W.nsIn K mainGlobals "latest_of" = some (some (.ref f15))) (l15 : K.lookup f15 = some ⟨oc15, od15, .func (PySem.W.fnOf "latest_of" "latest_of" (defArgs s_latest_of) (defBody s_latest_of) (defScope s_latest_of) .none kV15 dc15 pm15 an15 cd15 ct15), sl15⟩) (c15 : PySem.W.codeIn K cd15 "latest_of" = true) (k15 : PySem.W.keepIn K (.ref f15) = true)
    (a16 : PySem.W.nsIn K mainGlobals "witness_run" = some (some (.ref f16))) (l16 : K.lookup f16 = some ⟨oc16, od16, .func (PySem.W.fnOf "witness_run" "witness_run" (defArgs s_witness_run) (defBody s_witness_run) (defScope s_witness_run) .none kV16 dc16 pm16 an16 cd16 ct16), sl16⟩) (c16 : PySem.W.codeIn K cd16 "witness_run" = true) (k16 : PySem.W.keepIn K (.ref f16) = true)
    (a17 : PySem.W.nsIn K mainGlobals "_law_mix" = some (some (.ref f17))) (l17 : K.lookup f17 = some ⟨oc17, od17, .func (PySem.W.fnOf "_law_mix" "_law_mix" (defArgs s_law_mix) (defBody s_law_mix) (defScope s_law_mix) .none kV17 dc17 pm17 an17 cd17 ct17), sl17⟩) (c17 : PySem.W.codeIn K cd17 "_law_mix" = true) (k17 : PySem.W.keepIn K (.ref f17) = true)
    (a18 : PySem.W.nsIn K mainGlobals "_law_draw" = some (some (.ref f18))) (l18 : K.lookup f18 = some ⟨oc18, od18, .func (PySem.W.fnOf "_law_draw" "_law_draw" (defArgs s_law_draw) (defBody s_law_draw) (defScope s_law_draw) .none kV18 dc18 pm18 an18 cd18 ct18), sl18⟩) (c18 : PySem.W.codeIn K cd18 "_law_draw" = true) (k18 : PySem.W.keepIn K (.ref f18) = true)
    (a19 : PySem.W.nsIn K mainGlobals "_law_whole" = some (some (.ref f19))) (l19 : K.lookup f19 = some ⟨oc19, od19, .func (PySem.W.fnOf "_law_whole" "_law_whole" (defArgs s_law_whole) (defBody s_law_whole) (defScope s_law_whole) .none kV19 dc19 pm19 an19 cd19 ct19), sl19⟩) (c19 : PySem.W.codeIn K cd19 "_law_whole" = true) (k19 : PySem.W.keepIn K (.ref f19) = true)
    (a20 : PySem.W.nsIn K mainGlobals "_law_weight" = some (some (.ref f20))) (l20 : K.lookup f20 = some ⟨oc20, od20, .func (PySem.W.fnOf "_law_weight" "_law_weight" (defArgs s_law_weight) (defBody s_law_weight) (defScope s_law_weight) .none kV20 dc20 pm20 an20 cd20 ct20), sl20⟩) (c20 : PySem.W.codeIn K cd20 "_law_weight" = true) (k20 : PySem.W.keepIn K (.ref f20) = true)
    (a21 : PySem.W.nsIn K mainGlobals "_law_heft" = some (some (.ref f21))) (l21 : K.lookup f21 = some ⟨oc21, od21, .func (PySem.W.fnOf "_law_heft" "_law_heft" (defArgs s_law_heft) (defBody s_law_heft) (defScope s_law_heft) .none kV21 dc21 pm21 an21 cd21 ct21), sl21⟩) (c21 : PySem.W.codeIn K cd21 "_law_heft" = true) (k21 : PySem.W.keepIn K (.ref f21) = true)
    (a22 : PySem.W.nsIn K mainGlobals "_law_order" = some (some (.ref f22))) (l22 : K.lookup f22 = some ⟨oc22, od22, .func (PySem.W.fnOf "_law_order" "_law_order" (defArgs s_law_order) (defBody s_law_order) (defScope s_law_order) .none kV22 dc22 pm22 an22 cd22 ct22), sl22⟩) (c22 : PySem.W.codeIn K cd22 "_law_order" = true) (k22 : PySem.W.keepIn K (.ref f22) = true)
    (a23 : PySem.W.nsIn K mainGlobals "_law_turn" = some (some (.ref f23))) (l23 : K.lookup f23 = some ⟨oc23, od23, .func (PySem.W.fnOf "_law_turn" "_law_turn" (defArgs s_law_turn) (defBody s_law_turn) (defScope s_law_turn) .none kV23 dc23 pm23 an23 cd23 ct23), sl23⟩) (c23 : PySem.W.codeIn K cd23 "_law_turn" = true) (k23 : PySem.W.keepIn K (.ref f23) = true)
    (a24 : PySem.W.nsIn K mainGlobals "_law_run" = some (some (.ref f24))) (l24 : K.lookup f24 = some ⟨oc24, od24, .func (PySem.W.fnOf "_law_run" "_law_run" (defArgs s_law_run) (defBody s_law_run) (defScope s_law_run) .none kV24 dc24 pm24 an24 cd24 ct24), sl24⟩) (c24 : PySem.W.codeIn K cd24 "_law_run" = true) (k24 : PySem.W.keepIn K (.ref f24) = true)
    (a25 : PySem.W.nsIn K mainGlobals "_law_ends" = some (some (.ref f25))) (l25 : K.lookup f25 = some ⟨oc25, od25, .func (PySem.W.fnOf "_law_ends" "_law_ends" (defArgs s_law_ends) (defBody s_law_ends) (defScope s_law_ends) .none kV25 dc25 pm25 an25 cd25 ct25), sl25⟩) (c25 : PySem.W.codeIn K cd25 "_law_ends" = true) (k25 : PySem.W.keepIn K (.ref f25) = true)
    (a26 : PySem.W.nsIn K mainGlobals "_law_chores" = some (some (.ref f26))) (l26 : K.lookup f26 = some ⟨oc26, od26, .func (PySem.W.fnOf "_law_chores" "_law_chores" (defArgs s_law_chores) (defBody s_law_chores) (defScope s_law_chores) .none kV26 dc26 pm26 an26 cd26 ct26), sl26⟩) (c26 : PySem.W.codeIn K cd26 "_law_chores" = true) (k26 : PySem.W.keepIn K (.ref f26) = true)
    (a27 : PySem.W.nsIn K mainGlobals "_law_case" = some (some (.ref f27))) (l27 : K.lookup f27 = some ⟨oc27, od27, .func (PySem.W.fnOf "_law_case" "_law_case" (defArgs s_law_case) (defBody s_law_case) (defScope s_law_case) .none kV27 dc27 pm27 an27 cd27 ct27), sl27⟩) (c27 : PySem.W.codeIn K cd27 "_law_case" = true) (k27 : PySem.W.keepIn K (.ref f27) = true)
    (a28 : PySem.W.nsIn K mainGlobals "_law_refused" = some (some (.ref f28))) (l28 : K.lookup f28 = some ⟨oc28, od28, .func (PySem.W.fnOf "_law_refused" "_law_refused" (defArgs s_law_refused) (defBody s_law_refused) (defScope s_law_refused) .none kV28 dc28 pm28 an28 cd28 ct28), sl28⟩) (c28 : PySem.W.codeIn K cd28 "_law_refused" = true) (k28 : PySem.W.keepIn K (.ref f28) = true)
    (a29 : PySem.W.nsIn K mainGlobals "_law_right" = some (some (.ref f29))) (l29 : K.lookup f29 = some ⟨oc29, od29, .func (PySem.W.fnOf "_law_right" "_law_right" (defArgs s_law_right) (defBody s_law_right) (defScope s_law_right) .none kV29 dc29 pm29 an29 cd29 ct29), sl29⟩) (c29 : PySem.W.codeIn K cd29 "_law_right" = true) (k29 : PySem.W.keepIn K (.ref f29) = true)
    (a30 : PySem.W.nsIn K mainGlobals "law" = some (some (.ref f30))) (l30 : K.lookup f30 = some ⟨oc30, od30, .func (PySem.W.fnOf "law" "law" (defArgs s_law) (defBody s_law) (defScope s_law) .none kV30 dc30 pm30 an30 cd30 ct30), sl30⟩) (c30 : PySem.W.codeIn K cd30 "law" = true) (k30 : PySem.W.keepIn K (.ref f30) = true)
    (z_all : PySem.W.nsIn K mainGlobals "all" = some none)
    (z_any : PySem.W.nsIn K mainGlobals "any" = some none)
    (z_bool : PySem.W.nsIn K mainGlobals "bool" = some none)
    (z_dict : PySem.W.nsIn K mainGlobals "dict" = some none)
    (z_enumerate : PySem.W.nsIn K mainGlobals "enumerate" = some none)
    (z_int : PySem.W.nsIn K mainGlobals "int" = some none)
    (z_isinstance : PySem.W.nsIn K mainGlobals "isinstance" = some none)
    (z_len : PySem.W.nsIn K mainGlobals "len" = some none)
    (z_list : PySem.W.nsIn K mainGlobals "list" = some none)
    (z_max : PySem.W.nsIn K mainGlobals "max" = some none)
    (z_range : PySem.W.nsIn K mainGlobals "range" = some none)
    (z_repr : PySem.W.nsIn K mainGlobals "repr" = some none)
    (z_sorted : PySem.W.nsIn K mainGlobals "sorted" = some none)
    (q_int_int : PySem.W.kitOne K (.type "int") (.type "int") = some true)
    (q_int_bool : PySem.W.kitOne K (.type "int") (.type "bool") = some false)
    (q_bool_bool : PySem.W.kitOne K (.type "bool") (.type "bool") = some true)
    (q_dict_dict : PySem.W.kitOne K (.type "dict") (.type "dict") = some true)
    (q_NoneType_bool : PySem.W.kitOne K (.type "NoneType") (.type "bool") = some false)
    (q_NoneType_int : PySem.W.kitOne K (.type "NoneType") (.type "int") = some false)
    (q_str_bool : PySem.W.kitOne K (.type "str") (.type "bool") = some false)
    (q_str_int : PySem.W.kitOne K (.type "str") (.type "int") = some false)
    (q_list_bool : PySem.W.kitOne K (.type "list") (.type "bool") = some false)
    (q_list_int : PySem.W.kitOne K (.type "list") (.type "int") = some false)
    (q_tuple_bool : PySem.W.kitOne K (.type "tuple") (.type "bool") = some false)
    (q_tuple_int : PySem.W.kitOne K (.type "tuple") (.type "int") = some false)
    {c_WaitError c_NoPiece c_NoEnd : Addr} {cd_WaitError cd_NoPiece cd_NoEnd : ClassData}
    {fi_NoPiece fi_NoEnd : Addr} {xod_NoPiece xan_NoPiece xod_NoEnd xan_NoEnd : Option Addr} {xsl_NoPiece xsl_NoEnd : Array (Option Value)} {xoc_NoPiece xkV_NoPiece xdc_NoPiece xpm_NoPiece xcd_NoPiece xct_NoPiece xoc_NoEnd xkV_NoEnd xdc_NoEnd xpm_NoEnd xcd_NoEnd xct_NoEnd : Value}
    (xcg : PySem.W.specialIn K (.builtin "object.__class__") "__get__" = some (some (.builtin "getset_descriptor.__get__"))) (xct : PySem.W.takesIn K (.builtin "object.__class__") = some true)
    (xa_WaitError : PySem.W.nsIn K mainGlobals "WaitError" = some (some (.ref c_WaitError))) (xd_WaitError : PySem.W.clsIn K c_WaitError = some cd_WaitError) (xt_WaitError : PySem.W.typeIn K (.ref c_WaitError) = some (.type "type"))
    (x1_WaitError : PySem.W.findIn K (.ref c_WaitError) "__setattr__" = some (some (.builtin "object.__setattr__"))) (x2_WaitError : PySem.W.findIn K (.ref c_WaitError) "__getattribute__" = some (some (.builtin "BaseException.__getattribute__"))) (x3_WaitError : PySem.W.findIn K (.ref c_WaitError) "__getattr__" = some none) (x4_WaitError : PySem.W.hasDictIn K c_WaitError = true)
    (x5_WaitError : PySem.W.findIn K (.ref c_WaitError) "__class__" = some (some (.builtin "object.__class__"))) (x6_WaitError : PySem.W.mroIn K c_WaitError (.type "object") = some true) (x7_WaitError : PySem.W.keepIn K (.ref c_WaitError) = true)
    (z1_WaitError : cd_WaitError.mro = [.ref c_WaitError, .type "ValueError", .type "Exception", .type "BaseException", .type "object"]) (z2_WaitError : PySem.W.xcIn K c_WaitError none = true)
    (xa_NoPiece : PySem.W.nsIn K mainGlobals "NoPiece" = some (some (.ref c_NoPiece))) (xd_NoPiece : PySem.W.clsIn K c_NoPiece = some cd_NoPiece) (xt_NoPiece : PySem.W.typeIn K (.ref c_NoPiece) = some (.type "type"))
    (x1_NoPiece : PySem.W.findIn K (.ref c_NoPiece) "__setattr__" = some (some (.builtin "object.__setattr__"))) (x2_NoPiece : PySem.W.findIn K (.ref c_NoPiece) "__getattribute__" = some (some (.builtin "BaseException.__getattribute__"))) (x3_NoPiece : PySem.W.findIn K (.ref c_NoPiece) "__getattr__" = some none) (x4_NoPiece : PySem.W.hasDictIn K c_NoPiece = true)
    (x5_NoPiece : PySem.W.findIn K (.ref c_NoPiece) "__class__" = some (some (.builtin "object.__class__"))) (x6_NoPiece : PySem.W.mroIn K c_NoPiece (.type "object") = some true) (x7_NoPiece : PySem.W.keepIn K (.ref c_NoPiece) = true)
    (y1_NoPiece : PySem.W.findIn K (.ref c_NoPiece) "__init__" = some (some (.ref fi_NoPiece))) (y2_NoPiece : K.lookup fi_NoPiece = some ⟨xoc_NoPiece, xod_NoPiece, .func (PySem.W.fnOf "__init__" "NoPiece.__init__" (defArgs si_NoPiece) (defBody si_NoPiece) (defScope si_NoPiece) .none xkV_NoPiece xdc_NoPiece xpm_NoPiece xan_NoPiece xcd_NoPiece xct_NoPiece), xsl_NoPiece⟩) (y3_NoPiece : PySem.W.codeIn K xcd_NoPiece "NoPiece.__init__" = true) (y4_NoPiece : PySem.W.keepIn K (.ref fi_NoPiece) = true) (y5_NoPiece : PySem.W.isFn K (.ref fi_NoPiece) = true) (y6_NoPiece : PySem.W.findIn K (.ref c_NoPiece) "number" = some none)
    (z1_NoPiece : cd_NoPiece.mro = [.ref c_NoPiece, .ref c_WaitError, .type "ValueError", .type "Exception", .type "BaseException", .type "object"]) (z2_NoPiece : PySem.W.xcIn K c_NoPiece (some fi_NoPiece) = true)
    (xa_NoEnd : PySem.W.nsIn K mainGlobals "NoEnd" = some (some (.ref c_NoEnd))) (xd_NoEnd : PySem.W.clsIn K c_NoEnd = some cd_NoEnd) (xt_NoEnd : PySem.W.typeIn K (.ref c_NoEnd) = some (.type "type"))
    (x1_NoEnd : PySem.W.findIn K (.ref c_NoEnd) "__setattr__" = some (some (.builtin "object.__setattr__"))) (x2_NoEnd : PySem.W.findIn K (.ref c_NoEnd) "__getattribute__" = some (some (.builtin "BaseException.__getattribute__"))) (x3_NoEnd : PySem.W.findIn K (.ref c_NoEnd) "__getattr__" = some none) (x4_NoEnd : PySem.W.hasDictIn K c_NoEnd = true)
    (x5_NoEnd : PySem.W.findIn K (.ref c_NoEnd) "__class__" = some (some (.builtin "object.__class__"))) (x6_NoEnd : PySem.W.mroIn K c_NoEnd (.type "object") = some true) (x7_NoEnd : PySem.W.keepIn K (.ref c_NoEnd) = true)
    (y1_NoEnd : PySem.W.findIn K (.ref c_NoEnd) "__init__" = some (some (.ref fi_NoEnd))) (y2_NoEnd : K.lookup fi_NoEnd = some ⟨xoc_NoEnd, xod_NoEnd, .func (PySem.W.fnOf "__init__" "NoEnd.__init__" (defArgs si_NoEnd) (defBody si_NoEnd) (defScope si_NoEnd) .none xkV_NoEnd xdc_NoEnd xpm_NoEnd xan_NoEnd xcd_NoEnd xct_NoEnd), xsl_NoEnd⟩) (y3_NoEnd : PySem.W.codeIn K xcd_NoEnd "NoEnd.__init__" = true) (y4_NoEnd : PySem.W.keepIn K (.ref fi_NoEnd) = true) (y5_NoEnd : PySem.W.isFn K (.ref fi_NoEnd) = true) (y6_NoEnd : PySem.W.findIn K (.ref c_NoEnd) "number" = some none)
    (z1_NoEnd : cd_NoEnd.mro = [.ref c_NoEnd, .ref c_WaitError, .type "ValueError", .type "Exception", .type "BaseException", .type "object"]) (z2_NoEnd : PySem.W.xcIn K c_NoEnd (some fi_NoEnd) = true)
    (znd : [c_WaitError, c_NoPiece, c_NoEnd].Nodup)
    : ∃ (fd fg : FuncData) (ag : Addr) (og : Obj), (∀ (s : Shared) (v : Value), BindsTo s fd ⟨[v], []⟩ [("_law_script", v)]) ∧ mg "claims_in_order" = some (.ref ag) ∧ K.lookup ag = some og ∧ og.data = .func fg ∧ ∀ (tT : Addr) (base : Heap), K.In base → base.Ns mainGlobals mg → Site K mg base fg.code tT → FnOk l.prog w K mg base CX0 14 fa fd ["_law_script"] (spLaw K tT) := by
  have e := hfa.symm.trans (PySem.W.mg_of X G a30)
  cases e
  have xx_WaitError : XCls K c_WaitError := ⟨⟨none, z2_WaitError⟩, x1_WaitError, x2_WaitError, x3_WaitError, x4_WaitError, x5_WaitError, xcg, xct, x6_WaitError⟩
  have xx_NoPiece : XCls K c_NoPiece := ⟨⟨some fi_NoPiece, z2_NoPiece⟩, x1_NoPiece, x2_NoPiece, x3_NoPiece, x4_NoPiece, x5_NoPiece, xcg, xct, x6_NoPiece⟩
  have xx_NoEnd : XCls K c_NoEnd := ⟨⟨some fi_NoEnd, z2_NoEnd⟩, x1_NoEnd, x2_NoEnd, x3_NoEnd, x4_NoEnd, x5_NoEnd, xcg, xct, x6_NoEnd⟩
  have T : Txt K mg c_WaitError c_NoPiece c_NoEnd := ⟨znd, PySem.W.mg_of X G xa_WaitError, ⟨⟨_, xd_WaitError, z1_WaitError⟩, xt_WaitError⟩, xx_WaitError, PySem.W.mg_of X G xa_NoPiece, ⟨⟨_, xd_NoPiece, z1_NoPiece⟩, xt_NoPiece⟩, xx_NoPiece, y6_NoPiece, PySem.W.mg_of X G xa_NoEnd, ⟨⟨_, xd_NoEnd, z1_NoEnd⟩, xt_NoEnd⟩, xx_NoEnd, y6_NoEnd, PySem.W.mg_none_of X G z_all, PySem.W.mg_none_of X G z_any, PySem.W.mg_none_of X G z_bool, PySem.W.mg_none_of X G z_dict, PySem.W.mg_none_of X G z_enumerate, PySem.W.mg_none_of X G z_int, PySem.W.mg_none_of X G z_isinstance, PySem.W.mg_none_of X G z_len, PySem.W.mg_none_of X G z_list, PySem.W.mg_none_of X G z_max, PySem.W.mg_none_of X G z_range, PySem.W.mg_none_of X G z_repr, PySem.W.mg_none_of X G z_sorted, q_int_int, q_int_bool, q_bool_bool, q_dict_dict, q_NoneType_bool, q_NoneType_int, q_str_bool, q_str_int, q_list_bool, q_list_int, q_tuple_bool, q_tuple_int⟩
  have F0 := fun_mk (st := s_is_whole) l0 c0 k0
  have b0 := F0.binds (ps := ["thing", "low", "high"]) fun _ _ _ _ _ _ us hl => by obtain ⟨_, _, _, rfl⟩ := ul3 hl; rfl
  have D_is_whole : Dfn K mg "is_whole" s_is_whole ["thing", "low", "high"] _ _ := ⟨F0, b0, PySem.W.mg_of X G a0⟩
  have F1 := fun_mk (st := s_common_divisor) l1 c1 k1
  have b1 := F1.binds (ps := ["one", "other"]) fun _ _ _ _ _ _ us hl => by obtain ⟨_, _, rfl⟩ := ul2 hl; rfl
  have D_common_divisor : Dfn K mg "common_divisor" s_common_divisor ["one", "other"] _ _ := ⟨F1, b1, PySem.W.mg_of X G a1⟩
  have F2 := fun_mk (st := s_common_bottom) l2 c2 k2
  have b2 := F2.binds (ps := ["claims"]) fun _ _ _ _ _ _ us hl => by obtain ⟨_, rfl⟩ := ul1 hl; rfl
  have D_common_bottom : Dfn K mg "common_bottom" s_common_bottom ["claims"] _ _ := ⟨F2, b2, PySem.W.mg_of X G a2⟩
  have F3 := fun_mk (st := s_place_key) l3 c3 k3
  have b3 := F3.binds (ps := ["claim", "turn", "common"]) fun _ _ _ _ _ _ us hl => by obtain ⟨_, _, _, rfl⟩ := ul3 hl; rfl
  have D_place_key : Dfn K mg "place_key" s_place_key ["claim", "turn", "common"] _ _ := ⟨F3, b3, PySem.W.mg_of X G a3⟩
  have F4 := fun_mk (st := s_claims_in_order) l4 c4 k4
  have b4 := F4.binds (ps := ["claims", "turn"]) fun _ _ _ _ _ _ us hl => by obtain ⟨_, _, rfl⟩ := ul2 hl; rfl
  have D_claims_in_order : DfnC K mg "claims_in_order" s_claims_in_order ["claims", "turn"] _ _ _ := ⟨func_mk (st := s_claims_in_order) l4 c4, k4, b4, PySem.W.mg_of X G a4⟩
  have F5 := fun_mk (st := s_numbers_in_order) l5 c5 k5
  have b5 := F5.binds (ps := ["claims", "turn"]) fun _ _ _ _ _ _ us hl => by obtain ⟨_, _, rfl⟩ := ul2 hl; rfl
  have D_numbers_in_order : Dfn K mg "numbers_in_order" s_numbers_in_order ["claims", "turn"] _ _ := ⟨F5, b5, PySem.W.mg_of X G a5⟩
  have F6 := fun_mk (st := s_numbers_worked) l6 c6 k6
  have b6 := F6.binds (ps := ["chores", "hands", "turn"]) fun _ _ _ _ _ _ us hl => by obtain ⟨_, _, _, rfl⟩ := ul3 hl; rfl
  have D_numbers_worked : Dfn K mg "numbers_worked" s_numbers_worked ["chores", "hands", "turn"] _ _ := ⟨F6, b6, PySem.W.mg_of X G a6⟩
  have F7 := fun_mk (st := s_chores_behind) l7 c7 k7
  have b7 := F7.binds (ps := ["chores", "numbers"]) fun _ _ _ _ _ _ us hl => by obtain ⟨_, _, rfl⟩ := ul2 hl; rfl
  have D_chores_behind : Dfn K mg "chores_behind" s_chores_behind ["chores", "numbers"] _ _ := ⟨F7, b7, PySem.W.mg_of X G a7⟩
  have F8 := fun_mk (st := s_turn_done) l8 c8 k8
  have b8 := F8.binds (ps := ["chores", "hands", "turn"]) fun _ _ _ _ _ _ us hl => by obtain ⟨_, _, _, rfl⟩ := ul3 hl; rfl
  have D_turn_done : Dfn K mg "turn_done" s_turn_done ["chores", "hands", "turn"] _ _ := ⟨F8, b8, PySem.W.mg_of X G a8⟩
  have F9 := fun_mk (st := s_chores_taken) l9 c9 k9
  have b9 := F9.binds (ps := ["chores", "real"]) fun _ _ _ _ _ _ us hl => by obtain ⟨_, _, rfl⟩ := ul2 hl; rfl
  have D_chores_taken : Dfn K mg "chores_taken" s_chores_taken ["chores", "real"] _ _ := ⟨F9, b9, PySem.W.mg_of X G a9⟩
  have F10 := funD_mk (st := s_run_of) l10 c10 k10 t10 u10
  have b10 := F10.binds (ps := ["chores", "hands", "begin", "real"]) fun _ _ _ _ _ _ _ us hl => by obtain ⟨_, _, _, _, rfl⟩ := ul4 hl; exact ⟨_, rfl, rfl⟩
  have bd10 := F10.bindsD (ps := ["chores", "hands", "begin", "real"]) fun _ _ _ _ _ _ _ us hl => by obtain ⟨_, _, _, rfl⟩ := ul3 (show us.length = 3 by rw [List.length_append] at hl; exact Nat.succ.inj hl); exact ⟨_, rfl, rfl⟩
  have D_run_of : DfnD K mg "run_of" s_run_of ["chores", "hands", "begin", "real"] _ _ := ⟨F10, b10, bd10, PySem.W.mg_of X G a10⟩
  have F11 := fun_mk (st := s_is_piece_of) l11 c11 k11
  have b11 := F11.binds (ps := ["chores", "number"]) fun _ _ _ _ _ _ us hl => by obtain ⟨_, _, rfl⟩ := ul2 hl; rfl
  have D_is_piece_of : Dfn K mg "is_piece_of" s_is_piece_of ["chores", "number"] _ _ := ⟨F11, b11, PySem.W.mg_of X G a11⟩
  have F12 := fun_mk (st := s_check_piece) l12 c12 k12
  have b12 := F12.binds (ps := ["chores", "number"]) fun _ _ _ _ _ _ us hl => by obtain ⟨_, _, rfl⟩ := ul2 hl; rfl
  have D_check_piece : Dfn K mg "check_piece" s_check_piece ["chores", "number"] _ _ := ⟨F12, b12, PySem.W.mg_of X G a12⟩
  have F13 := fun_mk (st := s_last_turns) l13 c13 k13
  have b13 := F13.binds (ps := ["rows"]) fun _ _ _ _ _ _ us hl => by obtain ⟨_, rfl⟩ := ul1 hl; rfl
  have D_last_turns : Dfn K mg "last_turns" s_last_turns ["rows"] _ _ := ⟨F13, b13, PySem.W.mg_of X G a13⟩
  have F14 := fun_mk (st := s_latest_all) l14 c14 k14
  have b14 := F14.binds (ps := ["chores", "hands", "begin"]) fun _ _ _ _ _ _ us hl => by obtain ⟨_, _, _, rfl⟩ := ul3 hl; rfl
  have D_latest_all : Dfn K mg "latest_all" s_latest_all ["chores", "hands", "begin"] _ _ := ⟨F14, b14, PySem.W.mg_of X G a14⟩
  have F15 := fun_mk (st := s_latest_of) l15 c15 k15
  have b15 := F15.binds (ps := ["chores", "hands", "begin", "number"]) fun _ _ _ _ _ _ us hl => by obtain ⟨_, _, _, _, rfl⟩ := ul4 hl; rfl
  have D_latest_of : Dfn K mg "latest_of" s_latest_of ["chores", "hands", "begin", "number"] _ _ := ⟨F15, b15, PySem.W.mg_of X G a15⟩
  have F16 := fun_mk (st := s_witness_run) l16 c16 k16
  have b16 := F16.binds (ps := ["chores", "hands", "begin", "number"]) fun _ _ _ _ _ _ us hl => by obtain ⟨_, _, _, _, rfl⟩ := ul4 hl; rfl
  have D_witness_run : Dfn K mg "witness_run" s_witness_run ["chores", "hands", "begin", "number"] _ _ := ⟨F16, b16, PySem.W.mg_of X G a16⟩
  have F17 := fun_mk (st := s_law_mix) l17 c17 k17
  have b17 := F17.binds (ps := ["_law_cell", "_law_k"]) fun _ _ _ _ _ _ us hl => by obtain ⟨_, _, rfl⟩ := ul2 hl; rfl
  have D_law_mix : Dfn K mg "_law_mix" s_law_mix ["_law_cell", "_law_k"] _ _ := ⟨F17, b17, PySem.W.mg_of X G a17⟩
  have F18 := fun_mk (st := s_law_draw) l18 c18 k18
  have b18 := F18.binds (ps := ["_law_cell", "_law_k", "_law_many"]) fun _ _ _ _ _ _ us hl => by obtain ⟨_, _, _, rfl⟩ := ul3 hl; rfl
  have D_law_draw : Dfn K mg "_law_draw" s_law_draw ["_law_cell", "_law_k", "_law_many"] _ _ := ⟨F18, b18, PySem.W.mg_of X G a18⟩
  have F19 := fun_mk (st := s_law_whole) l19 c19 k19
  have b19 := F19.binds (ps := ["_law_found"]) fun _ _ _ _ _ _ us hl => by obtain ⟨_, rfl⟩ := ul1 hl; rfl
  have D_law_whole : Dfn K mg "_law_whole" s_law_whole ["_law_found"] _ _ := ⟨F19, b19, PySem.W.mg_of X G a19⟩
  have F20 := fun_mk (st := s_law_weight) l20 c20 k20
  have b20 := F20.binds (ps := ["_law_cell", "_law_k"]) fun _ _ _ _ _ _ us hl => by obtain ⟨_, _, rfl⟩ := ul2 hl; rfl
  have D_law_weight : Dfn K mg "_law_weight" s_law_weight ["_law_cell", "_law_k"] _ _ := ⟨F20, b20, PySem.W.mg_of X G a20⟩
  have F21 := fun_mk (st := s_law_heft) l21 c21 k21
  have b21 := F21.binds (ps := ["_law_claim", "_law_turn_here"]) fun _ _ _ _ _ _ us hl => by obtain ⟨_, _, rfl⟩ := ul2 hl; rfl
  have D_law_heft : Dfn K mg "_law_heft" s_law_heft ["_law_claim", "_law_turn_here"] _ _ := ⟨F21, b21, PySem.W.mg_of X G a21⟩
  have F22 := fun_mk (st := s_law_order) l22 c22 k22
  have b22 := F22.binds (ps := ["_law_claims", "_law_turn_here"]) fun _ _ _ _ _ _ us hl => by obtain ⟨_, _, rfl⟩ := ul2 hl; rfl
  have D_law_order : Dfn K mg "_law_order" s_law_order ["_law_claims", "_law_turn_here"] _ _ := ⟨F22, b22, PySem.W.mg_of X G a22⟩
  have F23 := fun_mk (st := s_law_turn) l23 c23 k23
  have b23 := F23.binds (ps := ["_law_rows", "_law_hands", "_law_turn_here"]) fun _ _ _ _ _ _ us hl => by obtain ⟨_, _, _, rfl⟩ := ul3 hl; rfl
  have D_law_turn : Dfn K mg "_law_turn" s_law_turn ["_law_rows", "_law_hands", "_law_turn_here"] _ _ := ⟨F23, b23, PySem.W.mg_of X G a23⟩
  have F24 := fun_mk (st := s_law_run) l24 c24 k24
  have b24 := F24.binds (ps := ["_law_chores_here", "_law_hands", "_law_begin"]) fun _ _ _ _ _ _ us hl => by obtain ⟨_, _, _, rfl⟩ := ul3 hl; rfl
  have D_law_run : Dfn K mg "_law_run" s_law_run ["_law_chores_here", "_law_hands", "_law_begin"] _ _ := ⟨F24, b24, PySem.W.mg_of X G a24⟩
  have F25 := fun_mk (st := s_law_ends) l25 c25 k25
  have b25 := F25.binds (ps := ["_law_rows"]) fun _ _ _ _ _ _ us hl => by obtain ⟨_, rfl⟩ := ul1 hl; rfl
  have D_law_ends : Dfn K mg "_law_ends" s_law_ends ["_law_rows"] _ _ := ⟨F25, b25, PySem.W.mg_of X G a25⟩
  have F26 := fun_mk (st := s_law_chores) l26 c26 k26
  have b26 := F26.binds (ps := ["_law_cell", "_law_many", "_law_begin"]) fun _ _ _ _ _ _ us hl => by obtain ⟨_, _, _, rfl⟩ := ul3 hl; rfl
  have D_law_chores : Dfn K mg "_law_chores" s_law_chores ["_law_cell", "_law_many", "_law_begin"] _ _ := ⟨F26, b26, PySem.W.mg_of X G a26⟩
  have F27 := fun_mk (st := s_law_case) l27 c27 k27
  have b27 := F27.binds (ps := ["_law_cell", "_law_most"]) fun _ _ _ _ _ _ us hl => by obtain ⟨_, _, rfl⟩ := ul2 hl; rfl
  have D_law_case : Dfn K mg "_law_case" s_law_case ["_law_cell", "_law_most"] _ _ := ⟨F27, b27, PySem.W.mg_of X G a27⟩
  have F28 := fun_mk (st := s_law_refused) l28 c28 k28
  have b28 := F28.binds (ps := ["_law_chores_here", "_law_hands", "_law_begin", "_law_thing"]) fun _ _ _ _ _ _ us hl => by obtain ⟨_, _, _, _, rfl⟩ := ul4 hl; rfl
  have D_law_refused : Dfn K mg "_law_refused" s_law_refused ["_law_chores_here", "_law_hands", "_law_begin", "_law_thing"] _ _ := ⟨F28, b28, PySem.W.mg_of X G a28⟩
  have F29 := fun_mk (st := s_law_right) l29 c29 k29
  have b29 := F29.binds (ps := ["_law_chores_here", "_law_hands", "_law_begin"]) fun _ _ _ _ _ _ us hl => by obtain ⟨_, _, _, rfl⟩ := ul3 hl; rfl
  have D_law_right : Dfn K mg "_law_right" s_law_right ["_law_chores_here", "_law_hands", "_law_begin"] _ _ := ⟨F29, b29, PySem.W.mg_of X G a29⟩
  have F30 := fun_mk (st := s_law) l30 c30 k30
  have b30 := F30.binds (ps := ["_law_script"]) fun _ _ _ _ _ _ us hl => by obtain ⟨_, rfl⟩ := ul1 hl; rfl
  have D_law : Dfn K mg "law" s_law ["_law_script"] _ _ := ⟨F30, b30, PySem.W.mg_of X G a30⟩
  refine ⟨PySem.W.fnOf "law" "law" (defArgs s_law) (defBody s_law) (defScope s_law) .none kV30 dc30 pm30 an30 cd30 ct30, PySem.W.fnOf "claims_in_order" "claims_in_order" (defArgs s_claims_in_order) (defBody s_claims_in_order) (defScope s_claims_in_order) .none kV4 dc4 pm4 an4 cd4 ct4, f4, ⟨oc4, od4, .func (PySem.W.fnOf "claims_in_order" "claims_in_order" (defArgs s_claims_in_order) (defBody s_claims_in_order) (defScope s_claims_in_order) .none kV4 dc4 pm4 an4 cd4 ct4), sl4⟩, fun s v => .of_eq rfl, PySem.W.mg_of X G a4, l4, rfl, fun tT base _ _ SI => ?_⟩
  have X_WaitError : XCal0 K mg "WaitError" c_WaitError := ⟨⟨xx_WaitError, z2_WaitError, x7_WaitError, fun f e => by cases e⟩, PySem.W.mg_of X G xa_WaitError⟩
  have X_NoPiece : XCal l.prog w K mg base "NoPiece" c_NoPiece "number" := ⟨⟨fi_NoPiece, _, ["self", "number"], ⟨xx_NoPiece, z2_NoPiece, x7_NoPiece, fun f e => by cases e; exact y5_NoPiece⟩, y6_NoPiece, xinit_ok (fun_mk (st := si_NoPiece) y2_NoPiece y3_NoPiece y4_NoPiece) sci_NoPiece rfl rfl rfl rfl rfl (fun _ => rfl), (fun_mk (st := si_NoPiece) y2_NoPiece y3_NoPiece y4_NoPiece).binds (ps := ["self", "number"]) fun _ _ _ _ _ _ us hl => by obtain ⟨_, _, rfl⟩ := ul2 hl; rfl, PySem.W.mg_of X G xa_NoPiece⟩⟩
  have X_NoEnd : XCal l.prog w K mg base "NoEnd" c_NoEnd "number" := ⟨⟨fi_NoEnd, _, ["self", "number"], ⟨xx_NoEnd, z2_NoEnd, x7_NoEnd, fun f e => by cases e; exact y5_NoEnd⟩, y6_NoEnd, xinit_ok (fun_mk (st := si_NoEnd) y2_NoEnd y3_NoEnd y4_NoEnd) sci_NoEnd rfl rfl rfl rfl rfl (fun _ => rfl), (fun_mk (st := si_NoEnd) y2_NoEnd y3_NoEnd y4_NoEnd).binds (ps := ["self", "number"]) fun _ _ _ _ _ _ us hl => by obtain ⟨_, _, rfl⟩ := ul2 hl; rfl, PySem.W.mg_of X G xa_NoEnd⟩⟩
  have C_law_mix := ok_law_mix (P := l.prog) (w := w) (base := base) D_law_mix T
  have C_law_draw := ok_law_draw (P := l.prog) (w := w) (base := base) D_law_draw T C_law_mix
  have C_law_weight := ok_law_weight (P := l.prog) (w := w) (base := base) D_law_weight T C_law_mix C_law_draw
  have C_law_chores := ok_law_chores (P := l.prog) (w := w) (base := base) D_law_chores T C_law_mix C_law_draw C_law_weight
  have C_law_case := ok_law_case (P := l.prog) (w := w) (base := base) D_law_case T C_law_draw C_law_chores
  have C_is_whole := ok_is_whole (P := l.prog) (w := w) (base := base) D_is_whole T
  have C_is_piece_of := ok_is_piece_of (P := l.prog) (w := w) (base := base) D_is_piece_of T C_is_whole
  have C_check_piece := ok_check_piece (P := l.prog) (w := w) (base := base) D_check_piece T C_is_piece_of X_NoPiece
  have C_chores_behind := ok_chores_behind (P := l.prog) (w := w) (base := base) D_chores_behind T
  have C_common_divisor := ok_common_divisor (P := l.prog) (w := w) (base := base) D_common_divisor T
  have C_common_bottom := ok_common_bottom (P := l.prog) (w := w) (base := base) D_common_bottom T C_common_divisor
  have C_place_key := ok_place_key (P := l.prog) (w := w) (base := base) D_place_key T
  have C_claims_in_order := ok_claims_in_order (P := l.prog) (w := w) (base := base) (tT := tT) D_claims_in_order SI T C_common_bottom C_place_key
  have C_numbers_in_order := ok_numbers_in_order (P := l.prog) (w := w) (base := base) D_numbers_in_order T C_claims_in_order
  have C_numbers_worked := ok_numbers_worked (P := l.prog) (w := w) (base := base) D_numbers_worked T C_numbers_in_order
  have C_turn_done := ok_turn_done (P := l.prog) (w := w) (base := base) D_turn_done T C_numbers_worked C_chores_behind
  have C_chores_taken := ok_chores_taken (P := l.prog) (w := w) (base := base) D_chores_taken T
  have C_run_of := ok_run_of (P := l.prog) (w := w) (base := base) D_run_of T C_chores_behind C_turn_done C_chores_taken
  have C_last_turns := ok_last_turns (P := l.prog) (w := w) (base := base) D_last_turns T
  have C_latest_all := ok_latest_all (P := l.prog) (w := w) (base := base) D_latest_all T C_run_of C_last_turns
  have C_latest_of := ok_latest_of (P := l.prog) (w := w) (base := base) D_latest_of T C_check_piece C_latest_all
  have C_witness_run := ok_witness_run (P := l.prog) (w := w) (base := base) D_witness_run T C_run_of C_check_piece C_last_turns
  have C_law_refused := ok_law_refused (P := l.prog) (w := w) (base := base) D_law_refused T C_latest_of C_witness_run
  have C_law_whole := ok_law_whole (P := l.prog) (w := w) (base := base) D_law_whole T
  have C_law_heft := ok_law_heft (P := l.prog) (w := w) (base := base) D_law_heft T
  have C_law_order := ok_law_order (P := l.prog) (w := w) (base := base) D_law_order T C_law_heft
  have C_law_turn := ok_law_turn (P := l.prog) (w := w) (base := base) D_law_turn T C_law_order
  have C_law_run := ok_law_run (P := l.prog) (w := w) (base := base) D_law_run T C_law_turn
  have C_law_ends := ok_law_ends (P := l.prog) (w := w) (base := base) D_law_ends T
  have C_law_right := ok_law_right (P := l.prog) (w := w) (base := base) D_law_right T C_latest_all C_latest_of C_witness_run C_law_whole C_law_run C_law_ends
  exact ok_law D_law T C_law_case C_law_refused C_law_right
theorem walk {l : PySem.W.OpenLaw} {q : Program} {loose : List Str} {XP : (Str → Option Value) → Heap → Prop} {YP : World → Heap → Prop} {d : DefRec} {K : Params → PySem.W.Frag} (hn : l.most = some 63) (hdf : d.params.defaults = [])
    (hY : ∀ (w : World) (h : Heap), YP w h → (K w.params).In h) (hK : ∀ p, tabless (K p) = true) (hrec : ∃ dr, (PyProof.Rows.recsOf q).find? (fun e => e.name == ("claims_in_order" : Str)) = some dr)
    (F : ∀ (w : World) (mg : Str → Option Value) (fa : Addr) (h : Heap), (K w.params).In h → h.Ns mainGlobals mg → mg d.name = some (.ref fa) →
      ∃ (fd fg : FuncData) (ag : Addr) (og : Obj), (∀ (s : Shared) (u : Value), BindsTo s fd ⟨[u], []⟩ [("_law_script", u)]) ∧ mg "claims_in_order" = some (.ref ag) ∧ (K w.params).lookup ag = some og ∧ og.data = .func fg ∧
        ∀ (tT : Addr) (base : Heap), (K w.params).In base → base.Ns mainGlobals mg → Site (K w.params) mg base fg.code tT → FnOk l.prog w (K w.params) mg base CX0 14 fa fd ["_law_script"] (spLaw (K w.params) tT)) :
    PySem.W.WalkO q loose XP YP l.row.toRowW d [] (fun f vs => PySem.call f vs) :=
  L2.walk_ofT (n := 63) (k := 14) (x := "_law_script") (g := "claims_in_order") (lp := lamPos) (q := lamQ) (sp := fun K tT => spLaw K tT) hn (by decide) hdf ⟨rfl, by decide, by decide, rfl⟩ hY hK hrec F (fun _ _ _ a ns hl hT hS => ⟨a, ns, rfl, hS, hl, hT, fun _ => rfl⟩)
end K61


set_option Elab.async false
set_option linter.all false
set_option maxRecDepth 100000
set_option maxHeartbeats 4000000
open PySem PySem.W PyProof.Rows
set_option maxRecDepth 100000 in
set_option maxHeartbeats 0 in
theorem PySem.Challenge.cw_greywait_k61_latest_turns_holds : PySem.Challenge.rw_greywait_k61_latest_turns.Holds := by
  w_on; o_law; k_head; (case hw => w_witness2)
  k_fill
  refine K61.walk (l := PySem.Challenge.rw_greywait_k61_latest_turns) rfl rfl (fun w h Y => PySem.W.km_in_of Y) (fun _ => by kernel_rfl) ⟨_, rfl⟩ ?F
  case F =>
    intro w mg fa h KX G hmg
    refine' K61.all_mk (l := PySem.Challenge.rw_greywait_k61_latest_turns) (w := w) KX G hmg ?a0 ?l0 ?c0 ?k0 ?a1 ?l1 ?c1 ?k1 ?a2 ?l2 ?c2 ?k2 ?a3 ?l3 ?c3 ?k3 ?a4 ?l4 ?c4 ?k4 ?a5 ?l5 ?c5 ?k5 ?a6 ?l6 ?c6 ?k6 ?a7 ?l7 ?c7 ?k7 ?a8 ?l8 ?c8 ?k8 ?a9 ?l9 ?c9 ?k9 ?a10 ?l10 ?c10 ?k10 ?t10 ?u10 ?a11 ?l11 ?c11 ?k11 ?a12 ?l12 ?c12 ?k12 ?a13 ?l13 ?c13 ?k13 ?a14 ?l14 ?c14 ?k14 ?a15 ?l15 ?c15 ?k15 ?a16 ?l16 ?c16 ?k16 ?a17 ?l17 ?c17 ?k17 ?a18 ?l18 ?c18 ?k18 ?a19 ?l19 ?c19 ?k19 ?a20 ?l20 ?c20 ?k20 ?a21 ?l21 ?c21 ?k21 ?a22 ?l22 ?c22 ?k22 ?a23 ?l23 ?c23 ?k23 ?a24 ?l24 ?c24 ?k24 ?a25 ?l25 ?c25 ?k25 ?a26 ?l26 ?c26 ?k26 ?a27 ?l27 ?c27 ?k27 ?a28 ?l28 ?c28 ?k28 ?a29 ?l29 ?c29 ?k29 ?a30 ?l30 ?c30 ?k30 ?z_all ?z_any ?z_bool ?z_dict ?z_enumerate ?z_int ?z_isinstance ?z_len ?z_list ?z_max ?z_range ?z_repr ?z_sorted ?q_int_int ?q_int_bool ?q_bool_bool ?q_dict_dict ?q_NoneType_bool ?q_NoneType_int ?q_str_bool ?q_str_int ?q_list_bool ?q_list_int ?q_tuple_bool ?q_tuple_int ?xcg ?xct ?xa_WaitError ?xd_WaitError ?xt_WaitError ?x1_WaitError ?x2_WaitError ?x3_WaitError ?x4_WaitError ?x5_WaitError ?x6_WaitError ?x7_WaitError ?z1_WaitError ?z2_WaitError ?xa_NoPiece ?xd_NoPiece ?xt_NoPiece ?x1_NoPiece ?x2_NoPiece ?x3_NoPiece ?x4_NoPiece ?x5_NoPiece ?x6_NoPiece ?x7_NoPiece ?y1_NoPiece ?y2_NoPiece ?y3_NoPiece ?y4_NoPiece ?y5_NoPiece ?y6_NoPiece ?z1_NoPiece ?z2_NoPiece ?xa_NoEnd ?xd_NoEnd ?xt_NoEnd ?x1_NoEnd ?x2_NoEnd ?x3_NoEnd ?x4_NoEnd ?x5_NoEnd ?x6_NoEnd ?x7_NoEnd ?y1_NoEnd ?y2_NoEnd ?y3_NoEnd ?y4_NoEnd ?y5_NoEnd ?y6_NoEnd ?z1_NoEnd ?z2_NoEnd ?znd
    (case a0 => k_is)
    (case l0 => k_is)
    (case c0 => k_is)
    (case k0 => k_is)
    (case a1 => k_is)
    (case l1 => k_is)
    (case c1 => k_is)
    (case k1 => k_is)
    (case a2 => k_is)
    (case l2 => k_is)
    (case c2 => k_is)
    (case k2 => k_is)
    (case a3 => k_is)
    (case l3 => k_is)
    (case c3 => k_is)
    (case k3 => k_is)
    (case a4 => k_is)
    (case l4 => k_is)
    (case c4 => k_is)
    (case k4 => k_is)
    (case a5 => k_is)
    (case l5 => k_is)
    (case c5 => k_is)
    (case k5 => k_is)
    (case a6 => k_is)
    (case l6 => k_is)
    (case c6 => k_is)
    (case k6 => k_is)
    (case a7 => k_is)
    (case l7 => k_is)
    (case c7 => k_is)
    (case k7 => k_is)
    (case a8 => k_is)
    (case l8 => k_is)
    (case c8 => k_is)
    (case k8 => k_is)
    (case a9 => k_is)
    (case l9 => k_is)
    (case c9 => k_is)
    (case k9 => k_is)
    (case a10 => k_is)
    (case l10 => k_is)
    (case c10 => k_is)
    (case k10 => k_is)
    (case t10 => k_is)
    (case u10 => rfl)
    (case a11 => k_is)
    (case l11 => k_is)
    (case c11 => k_is)
    (case k11 => k_is)
    (case a12 => k_is)
    (case l12 => k_is)
    (case c12 => k_is)
    (case k12 => k_is)
    (case a13 => k_is)
    (case l13 => k_is)
    (case c13 => k_is)
    (case k13 => k_is)
    (case a14 => k_is)
    (case l14 => k_is)
    (case c14 => k_is)
    (case k14 => k_is)
    (case a15 => k_is)
    (case l15 => k_is)
    (case c15 => k_is)
    (case k15 => k_is)
    (case a16 => k_is)
    (case l16 => k_is)
    (case c16 => k_is)
    (case k16 => k_is)
    (case a17 => k_is)
    (case l17 => k_is)
    (case c17 => k_is)
    (case k17 => k_is)
    (case a18 => k_is)
    (case l18 => k_is)
    (case c18 => k_is)
    (case k18 => k_is)
    (case a19 => k_is)
    (case l19 => k_is)
    (case c19 => k_is)
    (case k19 => k_is)
    (case a20 => k_is)
    (case l20 => k_is)
    (case c20 => k_is)
    (case k20 => k_is)
    (case a21 => k_is)
    (case l21 => k_is)
    (case c21 => k_is)
    (case k21 => k_is)
    (case a22 => k_is)
    (case l22 => k_is)
    (case c22 => k_is)
    (case k22 => k_is)
    (case a23 => k_is)
    (case l23 => k_is)
    (case c23 => k_is)
    (case k23 => k_is)
    (case a24 => k_is)
    (case l24 => k_is)
    (case c24 => k_is)
    (case k24 => k_is)
    (case a25 => k_is)
    (case l25 => k_is)
    (case c25 => k_is)
    (case k25 => k_is)
    (case a26 => k_is)
    (case l26 => k_is)
    (case c26 => k_is)
    (case k26 => k_is)
    (case a27 => k_is)
    (case l27 => k_is)
    (case c27 => k_is)
    (case k27 => k_is)
    (case a28 => k_is)
    (case l28 => k_is)
    (case c28 => k_is)
    (case k28 => k_is)
    (case a29 => k_is)
    (case l29 => k_is)
    (case c29 => k_is)
    (case k29 => k_is)
    (case a30 => k_is)
    (case l30 => k_is)
    (case c30 => k_is)
    (case k30 => k_is)
    (case z_all => k_is)
    (case z_any => k_is)
    (case z_bool => k_is)
    (case z_dict => k_is)
    (case z_enumerate => k_is)
    (case z_int => k_is)
    (case z_isinstance => k_is)
    (case z_len => k_is)
    (case z_list => k_is)
    (case z_max => k_is)
    (case z_range => k_is)
    (case z_repr => k_is)
    (case z_sorted => k_is)
    (case xcg => k_is)
    (case xct => k_is)
    (case xa_WaitError => k_is)
    (case xd_WaitError => k_is)
    (case xt_WaitError => k_is)
    (case x1_WaitError => k_is)
    (case x2_WaitError => k_is)
    (case x3_WaitError => k_is)
    (case x4_WaitError => k_is)
    (case x5_WaitError => k_is)
    (case x6_WaitError => k_is)
    (case x7_WaitError => k_is)
    (case z1_WaitError => rfl)
    (case z2_WaitError => kernel_rfl)
    (case xa_NoPiece => k_is)
    (case xd_NoPiece => k_is)
    (case xt_NoPiece => k_is)
    (case x1_NoPiece => k_is)
    (case x2_NoPiece => k_is)
    (case x3_NoPiece => k_is)
    (case x4_NoPiece => k_is)
    (case x5_NoPiece => k_is)
    (case x6_NoPiece => k_is)
    (case x7_NoPiece => k_is)
    (case y1_NoPiece => k_is)
    (case y2_NoPiece => k_is)
    (case y3_NoPiece => k_is)
    (case y4_NoPiece => k_is)
    (case y5_NoPiece => k_is)
    (case y6_NoPiece => k_is)
    (case z1_NoPiece => rfl)
    (case z2_NoPiece => kernel_rfl)
    (case xa_NoEnd => k_is)
    (case xd_NoEnd => k_is)
    (case xt_NoEnd => k_is)
    (case x1_NoEnd => k_is)
    (case x2_NoEnd => k_is)
    (case x3_NoEnd => k_is)
    (case x4_NoEnd => k_is)
    (case x5_NoEnd => k_is)
    (case x6_NoEnd => k_is)
    (case x7_NoEnd => k_is)
    (case y1_NoEnd => k_is)
    (case y2_NoEnd => k_is)
    (case y3_NoEnd => k_is)
    (case y4_NoEnd => k_is)
    (case y5_NoEnd => k_is)
    (case y6_NoEnd => k_is)
    (case z1_NoEnd => rfl)
    (case z2_NoEnd => kernel_rfl)
    (case znd => decide)
    (case q_int_int => kit_is)
    (case q_int_bool => kit_is)
    (case q_bool_bool => kit_is)
    (case q_dict_dict => kit_is)
    (case q_NoneType_bool => kit_is)
    (case q_NoneType_int => kit_is)
    (case q_str_bool => kit_is)
    (case q_str_int => kit_is)
    (case q_list_bool => kit_is)
    (case q_list_int => kit_is)
    (case q_tuple_bool => kit_is)
    (case q_tuple_int => kit_is)

