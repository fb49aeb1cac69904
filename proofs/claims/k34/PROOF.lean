import PyProof.Rows.All
import Wide.All
import OpenK.AllK
import Wide.FinOn
import PyProof.EqAt
import PyProof.EqKinds
import PyProof.TupleCall
import KE.KIntText
import PyProof.Rows.ReprOcc
import PyProof.ExcInit
import PyProof.ExcClass2
import PyProof.InstStoreFacts
import PyProof.NsDelKeeps
import KE.KSortTup
import KE.KLam
import KE.KMinBuiltin
import PyProof.DictValues
import PyProof.ReprRoads
import KE.KDictList
import PyProof.AttrMissHeap
import KE.KDictOf
import PyProof.EnumMake
import PyProof.ZipIter
import PyProof.SumWalk
import PyProof.DictWalks
import PyProof.ListNew
import KE.KRevIter
import KE.KRevSl
import PyProof.Rows.SetFrom
import PySem.Challenge.RW_greywait_k34_claims_and_chores
-- CHANGE: your row's module here, as the last of these rows
set_option Elab.async false
set_option linter.all false
set_option maxRecDepth 100000
/-! THE HAND LAYER, for ints, bools, texts, own classes, LISTS and tuples (index, slices, in, append, pop ..), calls, loops. Paste it whole ahead of your own text; what your proof does not reach may be deleted. -/
namespace L2
open PySem PySem.Spec PyProof.Rows

abbrev Key := Sum Int Str
def keyIs : Key → Value → Bool
  | .inl k, v => Value.isInt k v
  | .inr x, v => Value.isStrOf x v
def keyH (w : World) : Key → Int
  | .inl k => hashInt k
  | .inr x => hashStr w x
theorem keyIs_shape : ∀ {k : Key} {v : Value}, keyIs k v = true → (∃ i t, k = Sum.inl i ∧ v = Value.int i t) ∨ (∃ x t, k = Sum.inr x ∧ v = Value.str x t)
  | .inl i, v, h => by
    obtain ⟨t, e⟩ := Value.isInt_shape (k := i) (v := v) h
    exact .inl ⟨i, t, rfl, e⟩
  | .inr x, v, h => by
    obtain ⟨t, e⟩ := Value.isStrOf_shape (x := x) (v := v) h
    exact .inr ⟨x, t, rfl, e⟩
theorem key_ll (a b : Int) : decide ((Sum.inl a : Key) = Sum.inl b) = (a == b) := by
  by_cases e : a = b
  · subst e; simp
  · have h : ¬ (Sum.inl a : Key) = Sum.inl b := fun q => e (Sum.inl.inj q)
    rw [decide_eq_false h]
    exact (beq_eq_false_iff_ne.mpr e).symm
theorem key_rr (a b : Str) : decide ((Sum.inr a : Key) = Sum.inr b) = decide (a = b) := by
  by_cases e : a = b
  · subst e; simp
  · have h : ¬ (Sum.inr a : Key) = Sum.inr b := fun q => e (Sum.inr.inj q)
    rw [decide_eq_false h, decide_eq_false e]
theorem key_lr (a : Int) (b : Str) : decide ((Sum.inl a : Key) = Sum.inr b) = false := decide_eq_false (fun q => nomatch q)
theorem key_rl (a : Str) (b : Int) : decide ((Sum.inr a : Key) = Sum.inl b) = false := decide_eq_false (fun q => nomatch q)

def mixKind (prog : Program) (w : World) : PySem.KeyKind prog w Key where
  is := keyIs
  hash := keyH w
  inj := fun v a b ha hb => by
    rcases keyIs_shape ha with ⟨i, t, rfl, rfl⟩ | ⟨x, t, rfl, rfl⟩
    · rcases keyIs_shape hb with ⟨j, u, rfl, e⟩ | ⟨y, u, rfl, e⟩
      · injection e with e1 _; rw [e1]
      · exact nomatch e
    · rcases keyIs_shape hb with ⟨j, u, rfl, e⟩ | ⟨y, u, rfl, e⟩
      · exact nomatch e
      · injection e with e1 _; rw [e1]
  byValue := fun k v h => by
    rcases keyIs_shape h with ⟨i, t, rfl, rfl⟩ | ⟨x, t, rfl, rfl⟩ <;> rfl
  pyHash := fun hv h => by
    rcases keyIs_shape hv with ⟨i, t, rfl, rfl⟩ | ⟨x, t, rfl, rfl⟩
    · exact wpAny_pyHash_int h
    · exact wpAny_pyHash_str h
  eqBool := fun hu hv h => by
    rcases keyIs_shape hu with ⟨i, t, rfl, rfl⟩ | ⟨x, t, rfl, rfl⟩
    · rcases keyIs_shape hv with ⟨j, u, rfl, rfl⟩ | ⟨y, u, rfl, rfl⟩
      · rw [key_ll] at h; exact wpAny_eqBool_int h
      · rw [key_lr] at h; exact SeqAt.EqAt.int_str i t y u _ _ _ _ h
    · rcases keyIs_shape hv with ⟨j, u, rfl, rfl⟩ | ⟨y, u, rfl, rfl⟩
      · rw [key_rl] at h; exact SeqAt.EqAt.str_int x t j u _ _ _ _ h
      · rw [key_rr] at h; exact wpAny_eqBool_str h
  «strs» := fun k x t v h => by
    rcases keyIs_shape h with ⟨i, u, rfl, e⟩ | ⟨y, u, rfl, e⟩
    · exact nomatch e
    · injection e with e1 _
      subst e1
      cases v <;> rfl

end L2

namespace L2
open PySem PySem.Spec PyProof.Rows

inductive V where
  | non | bl (b : Bool) | int (i : Int) | str (x : Str) | byt (b : Array UInt8) | flt (b : UInt64) | ref (a : Addr) | ty (n : String)
  deriving DecidableEq

def RelV : V → Value → Prop
  | .non, u => u = Value.none
  | .bl b, u => u = Value.bool b
  | .int i, u => ∃ t, u = Value.int i t
  | .str x, u => ∃ t, u = Value.str x t
  | .byt b, u => ∃ t, u = Value.bytes b t
  | .flt b, u => ∃ t, u = Value.float b t
  | .ref a, u => u = Value.ref a
  | .ty n, u => u = Value.type n

abbrev Vals : List V → List Value → Prop := Paired RelV
theorem Vals.length {xs : List V} {us : List Value} (r : Vals xs us) : xs.length = us.length := Paired.length r
theorem Vals.get : ∀ {xs : List V} {us : List Value} {i : Nat} {x : V}, Vals xs us → xs[i]? = some x → ∃ u, us[i]? = some u ∧ RelV x u
  | _, _, _, _, .nil, e => by simp at e
  | _, _, 0, _, .cons r _, e => by simp at e; subst e; exact ⟨_, rfl, r⟩
  | _, _, i + 1, x, .cons _ t, e => by
    obtain ⟨u, h1, h2⟩ := Vals.get (i := i) (x := x) t (by simpa using e)
    exact ⟨u, by simpa using h1, h2⟩
theorem Vals.append : ∀ {xs ys : List V} {us ws : List Value}, Vals xs us → Vals ys ws → Vals (xs ++ ys) (us ++ ws)
  | _, _, _, _, .nil, s => s
  | _, _, _, _, .cons r t, s => .cons r (Vals.append t s)
theorem Vals.take : ∀ {xs : List V} {us : List Value} (n : Nat), Vals xs us → Vals (xs.take n) (us.take n)
  | _, _, 0, _ => .nil
  | _, _, _ + 1, .nil => .nil
  | _, _, n + 1, .cons r t => .cons r (Vals.take n t)
theorem Vals.drop : ∀ {xs : List V} {us : List Value} (n : Nat), Vals xs us → Vals (xs.drop n) (us.drop n)
  | _, _, 0, r => r
  | _, _, _ + 1, .nil => .nil
  | _, _, n + 1, .cons _ t => Vals.drop n t
def RelO : Option V → Option Value → Prop
  | some v, some u => RelV v u
  | none, none => True
  | _, _ => False
def KV {κ : Type} : List (κ × V) → List (κ × Value) → Prop := Paired fun (p : κ × V) (q : κ × Value) => p.1 = q.1 ∧ RelV p.2 q.2

def kV : Key → V
  | .inl i => .int i
  | .inr x => .str x

inductive HO where
    | lst (xs : List V)
    | tup (xs : List V)
    | dK (kvs : List (Key × V)) | dT (kvs : List (List Key × V))
    | set (S : Int → Bool) (n : Nat)
    | ins (C dx : Addr) (fs : List (Str × V))
    | own (x : Addr)
    | xd (fs : List (Str × V))
    | met (f x : Addr)
    | rng (lo hi : Int)
    | frz (o : Obj) (u : HO)
    | tbl (lp : Pos) (lq : Str)
    | ext (φ : Heap → Prop)

abbrev Hp := Addr → Option HO
def upd (H : Hp) (a : Addr) (o : HO) : Hp := fun b => if b = a then some o else H b
theorem upd_same {H : Hp} {a : Addr} {o : HO} : upd H a o a = some o := by unfold upd; rw [if_pos rfl]
theorem upd_ne {H : Hp} {a b : Addr} {o : HO} (h : b ≠ a) : upd H a o b = H b := by unfold upd; rw [if_neg h]
theorem upd_upd {H : Hp} {a : Addr} {o u : HO} : upd (upd H a o) a u = upd H a u := by
  funext b; unfold upd; split <;> rfl
theorem ne_of {H : Hp} {a b : Addr} {o u : HO} (h : H a = some o) (h' : H b = some u) (d : o ≠ u) : a ≠ b := by
  intro e; subst e; rw [h] at h'; exact d (Option.some.inj h')
theorem ne_of_none {H : Hp} {a b : Addr} {o : HO} (h : H a = some o) (h' : H b = none) : a ≠ b := by
  intro e; subst e; rw [h] at h'; cases h'

section
variable (P : Program) (w : World)
def ObjOk (H : Hp) (h : Heap) (a : Addr) : HO → Prop
  | .lst xs => xs.length ≤ sizeLine ∧ ∃ (its : List Value) (n : Nat), Vals xs its ∧ h.get? a = some { cls := .type "list", data := .seq its.toArray n }
  | .tup xs => xs.length ≤ sizeLine ∧ ∃ its : List Value, Vals xs its ∧ IsTup h a its.toArray
  | .dK kvs => kvs.length ≤ sizeLine ∧ (a == sysModules) = false ∧ ∃ vs, KV kvs vs ∧ h.DictOf (mixKind P w) a vs
  | .dT kvs => kvs.length ≤ sizeLine ∧ (a == sysModules) = false ∧ ∃ xs : List (List Key × Addr × Value),
      Paired (fun (p : List Key × V) (q : List Key × Addr × Value) => p.1 = q.1 ∧ H q.2.1 = some (.tup (p.1.map kV)) ∧ RelV p.2 q.2.2) kvs xs ∧
      ∃ o es ep, h.get? a = some o ∧ o.ExactDict ∧ o.data = .dict es ep ∧ es.toList = xs.map (entryOfKey (tupleKind (mixKind P w))) ∧ (xs.map (·.1)).Nodup
  | .set S n => h.SetOf (intKind P w) a S n
  | .ins C dx fs => H dx = some (.own a) ∧ fs.length ≤ 1000 ∧ dx ≠ a ∧ h.get? a = some (PySem.W.instObj C dx) ∧
      ∃ mA, h.Ns1 dx mA ∧ (∀ f, RelO (fs.lookup f) (mA f)) ∧ PySem.Within mA (fs.map (·.1))
  | .own _ => ∃ o, h.get? a = some o
  | .xd fs => ∃ mA, h.Ns1 a mA ∧ ∀ f, RelO (fs.lookup f) (mA f)
  | .rng lo hi => ∃ t u v, h.get? a = some { cls := .type "range", data := .fields #[.int lo t, .int hi u, .int 1 v] }
  | .frz o u => h.get? a = some o ∧ ObjOk H h a u
  | .tbl lp lq => ∃ vs : Array Value, h.get? a = some { cls := .none, data := .fields vs } ∧ TriplesOk vs.toList ∧ (codeAmong lp vs.toList = none ∨ ∃ c oc us t, codeAmong lp vs.toList = some (.ref c) ∧ H c = some (.frz oc (.own c)) ∧ oc.data = .fields us ∧ us[1]? = some (.str lq t))
  | .met f x => h.get? a = some (PySem.W.methodObj (.ref f) (.ref x))
  | .ext φ => φ h ∧ (∃ o, h.get? a = some o) ∧ ∀ h1 h2 : Heap, φ h1 → (∀ o, h1.get? a = some o → h2.get? a = some o) → φ h2
def HOk (H : Hp) (h : Heap) : Prop := ∀ a o, H a = some o → ObjOk P w H h a o
end

section
variable {P : Program} {w : World} {H H' : Hp} {h h' : Heap} {a : Addr} {o : HO}
theorem ObjOk.lt (x : ObjOk P w H h a o) : a < h.objs.size := by
  cases o with
  | lst xs => obtain ⟨_, _, _, _, e⟩ := x; exact Heap.lt_size e
  | tup xs => obtain ⟨_, _, _, p⟩ := x; exact p.lt
  | dK kvs => obtain ⟨_, _, _, _, o, _, _, e, _⟩ := x; exact Heap.lt_size e
  | dT kvs => obtain ⟨_, _, _, _, o, _, _, e, _⟩ := x; exact Heap.lt_size e
  | set S n => obtain ⟨o, _, _, _, e, _⟩ := x; exact Heap.lt_size e
  | ins C dx fs => obtain ⟨_, _, _, e, _⟩ := x; exact Heap.lt_size e
  | own y => obtain ⟨_, e⟩ := x; exact Heap.lt_size e
  | xd fs => obtain ⟨_, ⟨_, _, _, e, _⟩, _⟩ := x; exact Heap.lt_size e
  | rng lo hi => obtain ⟨_, _, _, e⟩ := x; exact Heap.lt_size e
  | frz ob u => obtain ⟨e, _⟩ := x; exact Heap.lt_size e
  | tbl lp lq => obtain ⟨_, e, _⟩ := x; exact Heap.lt_size e
  | met f y => exact Heap.lt_size (show h.get? a = some _ from x)
  | ext φ => obtain ⟨_, ⟨_, e⟩, _⟩ := x; exact Heap.lt_size e
theorem Paired.mapP {α β : Type} {F G : α → β → Prop} : ∀ {l₁ : List α} {l₂ : List β}, Paired F l₁ l₂ → (∀ a b, F a b → G a b) → Paired G l₁ l₂
  | _, _, .nil, _ => .nil
  | _, _, .cons r t, f => .cons (f _ _ r) (Paired.mapP t f)
theorem ObjOk.stay (x : ObjOk P w H h a o) (k : ∀ b u, (b = a ∨ H b = some (.own a)) → h.get? b = some u → h'.get? b = some u)
    (ho : ∀ b, H b = some (.own a) → H' b = some (.own a)) (ht : ∀ b xs, H b = some (.tup xs) → H' b = some (.tup xs)) (hz : ∀ b ob u, H b = some (.frz ob u) → H' b = some (.frz ob u)) : ObjOk P w H' h' a o := by
  induction o with
  | lst xs => obtain ⟨z, its, n, r, e⟩ := x; exact ⟨z, its, n, r, k _ _ (.inl rfl) e⟩
  | tup xs => obtain ⟨z, its, r, ob, e, c⟩ := x; exact ⟨z, its, r, ob, k _ _ (.inl rfl) e, c⟩
  | dK kvs => obtain ⟨z, y, vs, r, ob, es, ep, e, c⟩ := x; exact ⟨z, y, vs, r, ob, es, ep, k _ _ (.inl rfl) e, c⟩
  | dT kvs =>
    obtain ⟨z, y, xs, r, ob, es, ep, e, c⟩ := x
    exact ⟨z, y, xs, Paired.mapP r fun p q z => ⟨z.1, ht _ _ z.2.1, z.2.2⟩, ob, es, ep, k _ _ (.inl rfl) e, c⟩
  | set S n => obtain ⟨ob, es, ep, t, e, c⟩ := x; exact ⟨ob, es, ep, t, k _ _ (.inl rfl) e, c⟩
  | ins C dx fs =>
    obtain ⟨d, z, ne, e, mA, ⟨od, es, ep, e2, c⟩, r⟩ := x
    exact ⟨ho _ d, z, ne, k _ _ (.inl rfl) e, mA, ⟨od, es, ep, k _ _ (.inr d) e2, c⟩, r⟩
  | own y => obtain ⟨ob, e⟩ := x; exact ⟨ob, k _ _ (.inl rfl) e⟩
  | xd fs => obtain ⟨mA, ⟨od, es, ep, e, c⟩, r⟩ := x; exact ⟨mA, ⟨od, es, ep, k _ _ (.inl rfl) e, c⟩, r⟩
  | rng lo hi => obtain ⟨t, u, v, e⟩ := x; exact ⟨t, u, v, k _ _ (.inl rfl) e⟩
  | frz ob u ih => obtain ⟨e, q⟩ := x; exact ⟨k _ _ (.inl rfl) e, ih q⟩
  | tbl lp lq =>
    obtain ⟨vs, e, tr, r⟩ := x
    exact ⟨vs, k a _ (.inl rfl) e, tr, r.imp id fun ⟨c, oc, us, t, e1, e2, e3⟩ => ⟨c, oc, us, t, e1, hz _ _ _ e2, e3⟩⟩
  | met f y =>
    have e : h.get? a = some (PySem.W.methodObj (.ref f) (.ref y)) := x
    show h'.get? a = some (PySem.W.methodObj (.ref f) (.ref y))
    exact k a _ (.inl rfl) e
  | ext φ => obtain ⟨p, ⟨o, e⟩, st⟩ := x; exact ⟨st _ _ p fun o q => k _ _ (.inl rfl) q, ⟨o, k _ _ (.inl rfl) e⟩, st⟩
theorem HOk.lt (x : HOk P w H h) (e : H a = some o) : a < h.objs.size := (x a o e).lt
theorem HOk.fresh (x : HOk P w H h) (e : h.objs.size ≤ a) : H a = none := by
  cases q : H a with
  | none => rfl
  | some u => exact absurd (Nat.lt_of_lt_of_le (x.lt q) e) (Nat.lt_irrefl _)
theorem HOk.kept (x : HOk P w H h) (k : ∀ b u, h.get? b = some u → h'.get? b = some u) : HOk P w H h' := fun a o e =>
  (x a o e).stay (fun b u _ q => k b u q) (fun _ q => q) (fun _ _ q => q) fun _ _ _ q => q
theorem HOk.laid (x : HOk P w H h) (k : ∀ b u, h.get? b = some u → h'.get? b = some u) (hp : h.objs.size ≤ a) (new : ObjOk P w (upd H a o) h' a o) : HOk P w (upd H a o) h' := fun b u e => by
  have hn := x.fresh hp
  by_cases hb : b = a
  · subst hb; rw [upd_same] at e; cases e; exact new
  · rw [upd_ne hb] at e
    exact (x b u e).stay (fun c v _ q => k c v q) (fun c q => by rw [upd_ne (ne_of_none q hn)]; exact q) (fun c xs q => by rw [upd_ne (ne_of_none q hn)]; exact q) fun c ob xs q => by rw [upd_ne (ne_of_none q hn)]; exact q
end

def Rd (H : Hp) (a : Addr) (u : HO) : Prop := H a = some u ∨ ∃ o, H a = some (.frz o u)
theorem Rd.ok {P : Program} {w : World} {H : Hp} {h : Heap} {a : Addr} {u : HO} (r : Rd H a u) (x : HOk P w H h) : ObjOk P w H h a u := by
  rcases r with r | ⟨o, r⟩
  · exact x a u r
  · obtain ⟨_, q⟩ := x a _ r
    exact q
def Mut : Option HO → Prop
  | some (.lst _) => True
  | some (.dK _) => True
  | some (.dT _) => True
  | some (.set _ _) => True
  | some (.ins _ _ _) => True
  | some (.ext _) => True
  | _ => False
section
variable {P : Program} {w : World} {H : Hp} {h h' : Heap} {x e : Addr} {o' : HO}
theorem HOk.write (ok : HOk P w H h) (mu : Mut (H x)) (he : e = x ∨ H e = some (.own x)) (k : ∀ b u, b ≠ e → h.get? b = some u → h'.get? b = some u) (heo : ∃ u, h'.get? e = some u)
    (new : ObjOk P w (upd H x o') h' x o') : HOk P w (upd H x o') h' := fun b u q => by
  have nown : ∀ c y, H c = some (.own y) → c ≠ x := fun c y r z => by subst z; rw [r] at mu; exact mu
  have ntup : ∀ c xs, H c = some (.tup xs) → c ≠ x := fun c xs r z => by subst z; rw [r] at mu; exact mu
  have nfrz : ∀ c ob xs, H c = some (.frz ob xs) → c ≠ x := fun c ob xs r z => by subst z; rw [r] at mu; exact mu
  by_cases hb : b = x
  · subst hb; rw [upd_same] at q; cases q; exact new
  · rw [upd_ne hb] at q
    by_cases hbe : b = e
    · have q' : H b = some (.own x) := by
        rcases he with z | z
        · exact absurd (hbe.trans z) hb
        · rw [hbe]; exact z
      rw [q] at q'; cases q'
      obtain ⟨v, hv⟩ := heo
      exact ⟨v, by rw [hbe]; exact hv⟩
    · refine (ok b u q).stay (fun c v hc r => k c v ?_ r) (fun c r => by rw [upd_ne (nown c b r)]; exact r) (fun c xs r => by rw [upd_ne (ntup c xs r)]; exact r) fun c ob xs r => by rw [upd_ne (nfrz c ob xs r)]; exact r
      rcases hc with rfl | hc
      · exact hbe
      · rintro rfl
        rcases he with z | z
        · exact nown c b hc z
        · rw [hc] at z; cases z; exact hb rfl
end

/-! ### kept unless tracked; of the frames at fs (the callers') the slots may change (an exception that passes writes there); of the records at ex (iterators) nothing is said -/
structure Un (fs ex : List Addr) (H H' : Hp) (h h' : Heap) : Prop where
  keep : ∀ b o, h.get? b = some o → H b = none → b ∉ fs → b ∉ ex → h'.get? b = some o
  slot : ∀ b o, h.get? b = some o → H b = none → b ∈ fs → b ∉ ex → ∃ sl, h'.get? b = some { o with slots := sl }
  free : ∀ b o, h.get? b = some o → H b = none → b ∉ ex → H' b = none
  there : ∀ b o, h.get? b = some o → b ∉ ex → ∃ o', h'.get? b = some o'
  tups : ∀ b xs, H b = some (.tup xs) → H' b = some (.tup xs)
  frzs : ∀ b o u, H b = some (.frz o u) → H' b = some (.frz o u)
  tbls : ∀ b lp lq, H b = some (.tbl lp lq) → H' b = some (.tbl lp lq)
section
variable {fs fs' ex ex' : List Addr} {H H1 H2 : Hp} {h h1 h2 h' : Heap} {a x e : Addr} {o : HO}
theorem Un.any (u : Un fs ex H H1 h h1) {b : Addr} {ob : Obj} (q : h.get? b = some ob) (n : H b = none) (hx : b ∉ ex) : ∃ sl, h1.get? b = some { ob with slots := sl } := by
  by_cases hb : b ∈ fs
  · exact u.slot b ob q n hb hx
  · exact ⟨ob.slots, u.keep b ob q n hb hx⟩
theorem Un.kept (k : ∀ b u, h.get? b = some u → h'.get? b = some u) : Un fs ex H H h h' :=
  ⟨fun b ob q _ _ _ => k b ob q, fun b ob q _ _ _ => ⟨ob.slots, k b ob q⟩, fun _ _ _ n _ => n, fun b ob q _ => ⟨ob, k b ob q⟩, fun _ _ q => q, fun _ _ _ q => q, fun _ _ _ q => q⟩
theorem Un.refl : Un fs ex H H h h := Un.kept fun _ _ q => q
theorem Un.laid (k : ∀ b u, h.get? b = some u → h'.get? b = some u) (hp : h.objs.size ≤ a) (hn : H a = none) : Un fs ex H (upd H a o) h h' where
  keep := fun b u q _ _ _ => k b u q
  slot := fun b u q _ _ _ => ⟨u.slots, k b u q⟩
  free := fun b u q n _ => by rw [upd_ne (Nat.ne_of_lt (Nat.lt_of_lt_of_le (Heap.lt_size q) hp))]; exact n
  there := fun b u q _ => ⟨u, k b u q⟩
  tups := fun b xs q => by rw [upd_ne (ne_of_none q hn)]; exact q
  frzs := fun b u xs q => by rw [upd_ne (ne_of_none q hn)]; exact q
  tbls := fun b lp lq q => by rw [upd_ne (ne_of_none q hn)]; exact q
theorem Un.write (mu : Mut (H x)) (he : e = x ∨ H e = some (.own x)) (k : ∀ b u, b ≠ e → h.get? b = some u → h'.get? b = some u) (heo : ∃ u, h'.get? e = some u) : Un fs ex H (upd H x o) h h' := by
  have hx : ∀ b, H b = none → b ≠ x := fun b n z => by subst z; rw [n] at mu; exact mu
  have hb : ∀ b, H b = none → b ≠ e := fun b n z => by
    subst z
    rcases he with r | r
    · exact hx b n r
    · rw [n] at r; cases r
  have hm : ∀ b u, H b = some u → ¬ Mut (some u) → b ≠ x := fun b u q nm z => by subst z; rw [q] at mu; exact nm mu
  refine ⟨fun b u q n _ _ => k b u (hb b n) q, fun b u q n _ _ => ⟨u.slots, k b u (hb b n) q⟩, fun b u q n _ => by rw [upd_ne (hx b n)]; exact n, fun b u q _ => ?_,
    fun b xs q => by rw [upd_ne (hm b _ q fun z => z)]; exact q, fun b u xs q => by rw [upd_ne (hm b _ q fun z => z)]; exact q, fun b lp lq q => by rw [upd_ne (hm b _ q fun z => z)]; exact q⟩
  by_cases hbe : b = e
  · subst hbe; exact heo
  · exact ⟨u, k b u hbe q⟩
end

/-! ### the heap without what is tracked -/
def trk (h : Heap) (H : Hp) : List Addr := (List.range h.objs.size).filter fun a => (H a).isSome
def hidT (h : Heap) (H : Hp) : Heap := PySem.W.hideAll h (trk h H)
theorem hidT_size (h : Heap) (H : Hp) : (hidT h H).objs.size = h.objs.size := PySem.W.hideAll_size _ _
theorem hidT_get {h : Heap} {H : Hp} {b : Addr} {o : Obj} (e : h.get? b = some o) (n : H b = none) : (hidT h H).get? b = some o :=
  PySem.W.hideAll_get _ e fun hm => by
    have q : (H b).isSome = true := (List.mem_filter.mp hm).2
    rw [n] at q; simp at q
theorem of_hidT {h : Heap} {H : Hp} {b : Addr} {o : Obj} (e : (hidT h H).get? b = some o) : h.get? b = some o ∧ H b = none := by
  have e' : h.get? b = some o := PySem.W.of_hideAll (trk h H) e
  refine ⟨e', ?_⟩
  cases q : H b with
  | none => rfl
  | some x =>
    have hm : b ∈ trk h H := List.mem_filter.mpr ⟨List.mem_range.mpr (Heap.lt_size e'), by simp [q]⟩
    have z : (hidT h H).get? b = none := PySem.W.hideAll_none (trk h H) hm
    rw [z] at e; cases e

/-! ### OpenK's ledger, filled with every new object but one -/
def allNews (g h : Heap) (L : Addr) : List (Addr × Obj) := (List.range h.objs.size).filterMap fun a => if a = L ∨ (g.get? a).isSome = true then none else (h.get? a).map fun o => (a, o)
def rest (g h : Heap) (L d : Addr) : List (Addr × Obj) := (allNews g h L).filter fun p => decide (p.1 ≠ d)
end L2

namespace L2
open PySem PySem.Spec PyProof.Rows

structure Mod (K : PySem.W.Frag) (mg : Str → Option Value) (base : Heap) : Prop where
  kin : K.In base
  glob : base.Ns mainGlobals mg
  blt : ∃ mb, base.Ns builtinsNs mb ∧ ∀ x : Str, x ≠ "__name__" → mb x = bootBuiltins x
  nolimit : base.NoLimit

structure Cx where
  prog : Program
  w : World
  K : PySem.W.Frag
  mg : Str → Option Value
  base : Heap
  A : Around
  N : List Str
  s₀ : Shared
  H₀ : Hp
  env : Env
  outer : List Env
  stack : List Env
  ex : List Addr
  fn : Str → Bool
  calm : Bool
  pn : List (Addr × Obj)
  xe : Value → Shared → Prop
def frs (l : List Env) : List Addr := l.filterMap (·.frame)
abbrev Cx.fs (X : Cx) : List Addr := frs X.outer

def Vis (sc : Scope) (x : Str) : Prop := sc.names.lookup x = some .local ∨ sc.names.lookup x = some .cell ∨ sc.names.lookup x = some .free
def Loc (sc : Scope) (x : Str) : Prop := sc.names.lookup x = some .local ∨ sc.names.lookup x = some .cell
def Look (env : Env) (h : Heap) (m : Str → Option Value) (x : Str) (u : Value) : Prop :=
  (env.kindOf x = some .local ∧ m x = some u) ∨ ((env.kindOf x = some .cell ∨ env.kindOf x = some .free) ∧ ∃ c, env.cells.lookup x = some c ∧ h.IsCell c (some u))

structure Cx.Ok (X : Cx) : Prop where
  mod : Mod X.K X.mg X.base
  kind : X.env.scope.kind = .function
  glob : X.env.globals = mainGlobals
  blt : X.env.builtins = builtinsNs
  above : X.s₀.heap.objs.size ≤ X.env.locals
  inj : ∀ x y c, X.env.cells.lookup x = some c → X.env.cells.lookup y = some c → x = y
  has : ∀ x, (X.env.kindOf x = some .cell ∨ X.env.kindOf x = some .free) → ∃ c, X.env.cells.lookup x = some c
  cab : ∀ x c, X.fn x = true → X.env.cells.lookup x = some c → X.s₀.heap.objs.size ≤ c
  hd : X.calm = true → X.A.handled = none
  frames : X.A.frames = some X.stack
  stk : X.stack = X.outer ∨ (X.stack = X.env :: X.outer ∧ X.env.frame = some X.env.locals)
  exf : ∀ b ∈ X.ex, b ≠ X.env.locals ∧ ∀ x c, X.env.cells.lookup x = some c → c ≠ b
  bs : ∀ b o, X.base.get? b = some o → X.s₀.heap.get? b = some o ∧ X.H₀ b = none
  bsz : X.base.objs.size ≤ X.s₀.heap.objs.size
  noex : ∀ b o, X.base.get? b = some o → b ∉ X.ex
  exfs : ∀ b ∈ X.ex, b ∉ X.fs
  funs : X.s₀.heap.FunFrames X.base X.outer
  frf : ∀ b ∈ X.fs, X.H₀ b = none

structure Inv (X : Cx) (pins : List (Addr × Obj)) (σ : List (Option V)) (H : Hp) (s : Shared) : Prop where
  ok : X.Ok
  os : s.os = X.s₀.os
  bare : AllBare s.gens
  base : Un X.fs X.ex X.H₀ H X.s₀.heap s.heap
  loc : ∃ m, s.heap.Ns X.env.locals m ∧ ∀ (i : Nat) (x : Str) (v : V), X.N[i]? = some x → σ[i]? = some (some v) → Vis X.env.scope x → ∃ u, RelV v u ∧ Look X.env s.heap m x u
  cell : ∀ x c, X.env.cells.lookup x = some c → ∃ v, s.heap.IsCell c v
  free : H X.env.locals = none
  freeC : ∀ x c, X.env.cells.lookup x = some c → H c = none
  pin : ∀ p ∈ X.pn ++ pins, s.heap.get? p.1 = some p.2 ∧ H p.1 = none ∧ p.1 ≠ X.env.locals ∧ p.1 ∉ X.fs ∧ ∀ v, p.2.data ≠ .cell v
  hok : HOk X.prog X.w H s.heap
  len : σ.length = X.N.length

section
variable {X : Cx} {pins : List (Addr × Obj)} {σ : List (Option V)} {H H' : Hp} {s : Shared} {h' : Heap}

theorem Cx.Ok.nofr (ok : X.Ok) {b : Addr} {o : Obj} (e : X.base.get? b = some o) : b ∉ X.fs := fun hb => by
  have := (ok.funs.mem hb).1
  rw [e] at this; cases this
theorem Inv.bs (I : Inv X pins σ H s) : ∀ b o, X.base.get? b = some o → s.heap.get? b = some o ∧ H b = none := fun b o e =>
  ⟨I.base.keep b o (I.ok.bs b o e).1 (I.ok.bs b o e).2 (I.ok.nofr e) (I.ok.noex b o e), I.base.free b o (I.ok.bs b o e).1 (I.ok.bs b o e).2 (I.ok.noex b o e)⟩
theorem Inv.bk (I : Inv X pins σ H s) : ∀ b o, X.base.get? b = some o → s.heap.get? b = some o := fun b o e => (I.bs b o e).1
theorem Inv.mod (I : Inv X pins σ H s) : Mod X.K X.mg X.base := I.ok.mod
theorem Inv.kIn (I : Inv X pins σ H s) : X.K.In s.heap := I.ok.mod.kin.keeps I.bk
theorem Inv.lt (I : Inv X pins σ H s) : X.env.locals < s.heap.objs.size := let ⟨_, hn, _⟩ := I.loc; hn.lt
theorem Inv.sz (I : Inv X pins σ H s) : X.s₀.heap.objs.size ≤ s.heap.objs.size := Nat.le_trans I.ok.above (Nat.le_of_lt I.lt)
theorem Inv.nofs (I : Inv X pins σ H s) {a : Addr} (h : s.heap.objs.size ≤ a) : a ∉ X.fs := fun hb => by
  obtain ⟨_, o, ho, _⟩ := I.ok.funs.mem hb
  exact absurd (Nat.lt_of_lt_of_le (Heap.lt_size ho) (Nat.le_trans I.sz h)) (Nat.lt_irrefl _)
theorem Inv.cne (I : Inv X pins σ H s) : ∀ x c, X.env.cells.lookup x = some c → c ≠ X.env.locals := fun x c e z => by
  obtain ⟨v, o, ho, hd⟩ := I.cell x c e
  obtain ⟨m, ⟨o', es, ep, ho', hd', _⟩, _⟩ := I.loc
  rw [z, ho'] at ho; cases ho; rw [hd'] at hd; cases hd
theorem Inv.funs (I : Inv X pins σ H s) : s.heap.FunFrames X.base X.outer := by
  have all : ∀ (l : List Env), (∀ b ∈ frs l, b ∈ X.fs) → X.s₀.heap.FunFrames X.base l → s.heap.FunFrames X.base l := by
    intro l
    induction l with
    | nil => intro _ _; trivial
    | cons env r ih =>
      intro hs hl
      obtain ⟨hk, ⟨L, o, hf, hn, ho, hd⟩, hr⟩ := hl
      have hL : L ∈ X.fs := hs L (by unfold frs; rw [List.filterMap_cons, hf]; exact List.mem_cons_self)
      obtain ⟨sl, e⟩ := I.base.slot L o ho (I.ok.frf L hL) hL fun z => I.ok.exfs L z hL
      exact ⟨hk, ⟨L, _, hf, hn, e, hd⟩, ih (fun b hb => hs b (by unfold frs; rw [List.filterMap_cons, hf]; exact List.mem_cons_of_mem _ hb)) hr⟩
  exact all X.outer (fun _ hb => hb) I.ok.funs

theorem Inv.stack (I : Inv X pins σ H s) : s.heap.FunFrames X.base X.stack := by
  rcases I.ok.stk with e | ⟨e, hf⟩
  · rw [e]; exact I.funs
  · rw [e]
    obtain ⟨m, hn, _⟩ := I.loc
    refine .cons (by rw [I.ok.kind]; decide) hf hn ?_ I.funs
    exact Heap.get?_none_of_le (Nat.le_trans I.ok.bsz I.ok.above)
theorem Inv.stkSub (I : Inv X pins σ H s) : ∀ b ∈ frs X.stack, b ∈ X.env.locals :: X.fs := fun b hb => by
  rcases I.ok.stk with e | ⟨e, hf⟩
  · rw [e] at hb; exact List.mem_cons_of_mem _ hb
  · rw [e] at hb
    unfold frs at hb
    rw [List.filterMap_cons, hf] at hb
    exact hb
theorem Inv.stkFree (I : Inv X pins σ H s) : ∀ b ∈ frs X.stack, H b = none := fun b hb => by
  rcases List.mem_cons.mp (I.stkSub b hb) with e | hb
  · rw [e]; exact I.free
  · obtain ⟨_, o, ho, _⟩ := I.ok.funs.mem hb
    exact I.base.free b o ho (I.ok.frf b hb) fun z => I.ok.exfs b z hb

theorem Inv.step {g' : Array GenState} {t' : Nat} {d' : Drawn} {ch : List Addr} (I : Inv X pins σ H s)
    (hch : ∀ b ∈ ch, (b ∈ X.ex ∨ X.s₀.heap.objs.size ≤ b) ∧ b ≠ X.env.locals ∧ (∀ x c, X.env.cells.lookup x = some c → c ≠ b) ∧ ∀ p ∈ X.pn ++ pins, p.1 ≠ b)
    (keep : ∀ b o, b ≠ X.env.locals → b ∉ X.fs → b ∉ ch → s.heap.get? b = some o → H b = none → h'.get? b = some o)
    (slot : ∀ b o, b ≠ X.env.locals → b ∈ X.fs → b ∉ ch → s.heap.get? b = some o → H b = none → ∃ sl, h'.get? b = some { o with slots := sl }) (free : ∀ b o, b ∉ ch → s.heap.get? b = some o → H b = none → H' b = none)
    (there : ∀ b o, b ∉ ch → s.heap.get? b = some o → ∃ o', h'.get? b = some o')
    (tups : ∀ b xs, H b = some (.tup xs) → H' b = some (.tup xs)) (frzs : ∀ b o u, H b = some (.frz o u) → H' b = some (.frz o u)) (tbls : ∀ b lp lq, H b = some (.tbl lp lq) → H' b = some (.tbl lp lq))
    (ns : ∀ m, s.heap.Ns X.env.locals m → h'.Ns X.env.locals m) (hok : HOk X.prog X.w H' h') (hg : AllBare g') :
    Inv X pins σ H' { s with heap := h', gens := g', drawn := d', toks := t' } := by
  have neL : ∀ b o, X.s₀.heap.get? b = some o → b ≠ X.env.locals := fun b o e => Nat.ne_of_lt (Nat.lt_of_lt_of_le (Heap.lt_size e) I.ok.above)
  have neC : ∀ b o, X.s₀.heap.get? b = some o → b ∉ X.ex → b ∉ ch := fun b o e hx hb => by
    rcases (hch b hb).1 with z | z
    · exact hx z
    · exact absurd (Nat.lt_of_lt_of_le (Heap.lt_size e) z) (Nat.lt_irrefl _)
  have cellK : ∀ x c, X.env.cells.lookup x = some c → ∀ v, s.heap.IsCell c v → h'.IsCell c v := fun x c e v ⟨o, ho, hd⟩ => by
    have nch : c ∉ ch := fun z => (hch c z).2.2.1 x c e rfl
    by_cases hc : c ∈ X.fs
    · obtain ⟨sl, q⟩ := slot c o (I.cne x c e) hc nch ho (I.freeC x c e)
      exact ⟨_, q, hd⟩
    · exact ⟨o, keep c o (I.cne x c e) hc nch ho (I.freeC x c e), hd⟩
  refine ⟨I.ok, I.os, hg, ⟨fun b o e n hb hx => ?_, fun b o e n hb hx => ?_, fun b o e n hx => ?_, fun b o e hx => ?_, fun b xs e => tups b xs (I.base.tups b xs e), fun b o xs e => frzs b o xs (I.base.frzs b o xs e), fun b lp lq e => tbls b lp lq (I.base.tbls b lp lq e)⟩, ?_, fun x c e => ?_, ?_, fun x c e => ?_, fun p hp => ?_, hok, I.len⟩
  · exact keep b o (neL b o e) hb (neC b o e hx) (I.base.keep b o e n hb hx) (I.base.free b o e n hx)
  · obtain ⟨sl, e1⟩ := I.base.slot b o e n hb hx
    obtain ⟨sl', e2⟩ := slot b _ (neL b o e) hb (neC b o e hx) e1 (I.base.free b o e n hx)
    exact ⟨sl', e2⟩
  · obtain ⟨o', e1⟩ := I.base.there b o e hx
    exact free b o' (neC b o e hx) e1 (I.base.free b o e n hx)
  · obtain ⟨o', e1⟩ := I.base.there b o e hx
    exact there b o' (neC b o e hx) e1
  · obtain ⟨m, hn, hl⟩ := I.loc
    refine ⟨m, ns m hn, fun i x v e1 e2 e3 => ?_⟩
    obtain ⟨u, r, l⟩ := hl i x v e1 e2 e3
    refine ⟨u, r, ?_⟩
    rcases l with l | ⟨k, c, e, z⟩
    · exact .inl l
    · exact .inr ⟨k, c, e, cellK x c e _ z⟩
  · obtain ⟨v, z⟩ := I.cell x c e
    exact ⟨v, cellK x c e v z⟩
  · obtain ⟨m, ⟨o, _, _, ho, _⟩, _⟩ := I.loc
    exact free _ o (fun z => (hch _ z).2.1 rfl) ho I.free
  · obtain ⟨v, o, ho, hd⟩ := I.cell x c e
    exact free c o (fun z => (hch c z).2.2.1 x c e rfl) ho (I.freeC x c e)
  · obtain ⟨e, n, ne, nf, d⟩ := I.pin p hp
    have nch : p.1 ∉ ch := fun z => (hch p.1 z).2.2.2 p hp rfl
    exact ⟨keep p.1 p.2 ne nf nch e n, free p.1 p.2 nch e n, ne, nf, d⟩
theorem Inv.un {t' : Nat} (I : Inv X pins σ H s) (u : Un X.fs [] H H' s.heap h') (hok : HOk X.prog X.w H' h') : Inv X pins σ H' { s with heap := h', toks := t' } := by
  obtain ⟨m, ⟨o, es, ep, ho, r⟩, _⟩ := id I.loc
  obtain ⟨sl, hL⟩ := u.any ho I.free (by simp)
  exact I.step (g' := s.gens) (d' := s.drawn) (ch := []) (fun _ z => nomatch z) (fun b o _ hb _ e n => u.keep b o e n hb (by simp)) (fun b o _ hb _ e n => u.slot b o e n hb (by simp)) (fun b o _ e n => u.free b o e n (by simp)) (fun b o _ e => u.there b o e (by simp)) u.tups u.frzs u.tbls (fun m' hm => by
    obtain ⟨o', es', ep', ho', r'⟩ := hm
    rw [ho] at ho'; cases ho'
    exact ⟨_, es', ep', hL, r'⟩) hok I.bare
theorem Inv.call {g' : Array GenState} {t' : Nat} {d' : Drawn} {ch : List Addr} (I : Inv X pins σ H s) (u : Un (frs X.stack) ch H H' s.heap h') (hok : HOk X.prog X.w H' h') (hg : AllBare g')
    (hch : ∀ b ∈ ch, (b ∈ X.ex ∨ X.s₀.heap.objs.size ≤ b) ∧ b ≠ X.env.locals ∧ (∀ x c, X.env.cells.lookup x = some c → c ≠ b) ∧ ∀ p ∈ X.pn ++ pins, p.1 ≠ b) :
    Inv X pins σ H' { s with heap := h', gens := g', drawn := d', toks := t' } := by
  obtain ⟨m, ⟨o, es, ep, ho, r⟩, _⟩ := id I.loc
  obtain ⟨sl, hL⟩ := u.any ho I.free fun z => (hch _ z).2.1 rfl
  exact I.step (ch := ch) hch (fun b o hL hb hc e n => u.keep b o e n (fun z => (List.mem_cons.mp (I.stkSub b z)).elim hL hb) hc) (fun b o _ _ hc e n => u.any e n hc) (fun b o hc e n => u.free b o e n hc) (fun b o hc e => u.there b o e hc) u.tups u.frzs u.tbls (fun m' hm => by
    obtain ⟨o', es', ep', ho', r'⟩ := hm
    rw [ho] at ho'; cases ho'
    exact ⟨_, es', ep', hL, r'⟩) hok hg
theorem Inv.turned {t' : Nat} {it : Addr} (I : Inv X pins σ H s) (k : ∀ b o, b ≠ it → s.heap.get? b = some o → h'.get? b = some o) (hn : H it = none) (hL : it ≠ X.env.locals)
    (h1 : it ∈ X.ex ∨ X.s₀.heap.objs.size ≤ it) (h2 : ∀ x c, X.env.cells.lookup x = some c → c ≠ it) (h3 : ∀ p ∈ X.pn ++ pins, p.1 ≠ it) : Inv X pins σ H { s with heap := h', toks := t' } := by
  have nit : ∀ b u, H b = some u → b ≠ it := fun b u e z => by rw [z, hn] at e; cases e
  refine I.step (g' := s.gens) (d' := s.drawn) (ch := [it]) (fun b hb => ?_) (fun b o _ _ hc e _ => k b o (fun z => hc (by simp [z])) e) (fun b o _ _ hc e _ => ⟨o.slots, k b o (fun z => hc (by simp [z])) e⟩) (fun _ _ _ _ n => n)
    (fun b o hc e => ⟨o, k b o (fun z => hc (by simp [z])) e⟩) (fun _ _ e => e) (fun _ _ _ e => e) (fun _ _ _ e => e) (fun m hm => ?_) (fun b u e => ?_) I.bare
  · have e : b = it := by simpa using hb
    subst e
    exact ⟨h1, hL, h2, h3⟩
  · obtain ⟨o, es, ep, ho, r⟩ := hm
    exact ⟨o, es, ep, k _ o (Ne.symm hL) ho, r⟩
  · refine (I.hok b u e).stay (fun c v hc q => k c v ?_ q) (fun _ q => q) (fun _ _ q => q) fun _ _ _ q => q
    rcases hc with z | z
    · rw [z]; exact nit b u e
    · exact nit c _ z
theorem Inv.tok (I : Inv X pins σ H s) (t : Nat) : Inv X pins σ H { s with toks := t } := I.un (h' := s.heap) (t' := t) Un.refl I.hok
theorem Inv.kept {t' : Nat} (I : Inv X pins σ H s) (k : ∀ b u, s.heap.get? b = some u → h'.get? b = some u) : Inv X pins σ H { s with heap := h', toks := t' } := I.un (Un.kept k) (I.hok.kept k)
theorem Inv.laid {a : Addr} {o : HO} {t' : Nat} (I : Inv X pins σ H s) (k : ∀ b u, s.heap.get? b = some u → h'.get? b = some u) (hp : s.heap.objs.size ≤ a) (new : ObjOk X.prog X.w (upd H a o) h' a o) :
    Inv X pins σ (upd H a o) { s with heap := h', toks := t' } := I.un (Un.laid k hp (I.hok.fresh hp)) (I.hok.laid k hp new)
theorem Inv.write {x e : Addr} {o : HO} {t' : Nat} (I : Inv X pins σ H s) (mu : Mut (H x)) (he : e = x ∨ H e = some (.own x)) (k : ∀ b u, b ≠ e → s.heap.get? b = some u → h'.get? b = some u) (heo : ∃ u, h'.get? e = some u)
    (new : ObjOk X.prog X.w (upd H x o) h' x o) : Inv X pins σ (upd H x o) { s with heap := h', toks := t' } := I.un (Un.write mu he k heo) (I.hok.write mu he k heo new)
theorem Inv.weak {σ' : List (Option V)} (I : Inv X pins σ H s) (hl : σ'.length = σ.length) (w : ∀ (i : Nat) v, σ'[i]? = some (some v) → σ[i]? = some (some v)) : Inv X pins σ' H s :=
  ⟨I.ok, I.os, I.bare, I.base, let ⟨m, hn, hl'⟩ := I.loc; ⟨m, hn, fun i x v e1 e2 e3 => hl' i x v e1 (w i v e2) e3⟩, I.cell, I.free, I.freeC, I.pin, I.hok, hl.trans I.len⟩
theorem Inv.pins_of {pins' : List (Addr × Obj)} (I : Inv X pins σ H s) (h : ∀ p ∈ pins', s.heap.get? p.1 = some p.2 ∧ H p.1 = none ∧ p.1 ≠ X.env.locals ∧ p.1 ∉ X.fs ∧ ∀ v, p.2.data ≠ .cell v) : Inv X pins' σ H s :=
  ⟨I.ok, I.os, I.bare, I.base, I.loc, I.cell, I.free, I.freeC, fun p hp => (List.mem_append.mp hp).elim (fun z => I.pin p (List.mem_append_left _ z)) (h p), I.hok, I.len⟩

theorem nodup_ix {N : List Str} (hN : N.Nodup) {i j : Nat} {x : Str} (a : N[i]? = some x) (b : N[j]? = some x) : i = j := by
  obtain ⟨h1, e1⟩ := List.getElem?_eq_some_iff.mp a
  obtain ⟨h2, e2⟩ := List.getElem?_eq_some_iff.mp b
  exact (List.getElem_inj hN).mp (e1.trans e2.symm)

theorem store_ok2 {M : Model} {A : Around} {E : Value → Shared → Prop} {i : Nat} {x : Str} {v : V} {u : Value} {Q : Unit → Shared → Prop} (I : Inv X pins σ H s) (hN : X.N.Nodup) (hi : X.N[i]? = some x) (hx : Loc X.env.scope x) (r : RelV v u)
    (h : ∀ s', Inv X pins (σ.set i (some v)) H s' → (∃ a, Heap.SameBut a s.heap s'.heap ∧ (a = X.env.locals ∨ X.env.cells.lookup x = some a)) → Q () s') (hf : X.fn x = true ∨ X.env.scope.names.lookup x = some .local := by first | exact .inl rfl | exact .inr rfl | assumption) : wpAny M A (storeName X.env x u) Q E s := by
  obtain ⟨m, hn, hl⟩ := id I.loc
  have hcls : (X.env.scope.kind == .class || (X.env.scope.kind == .module && X.env.locals != X.env.globals)) = false := by rw [I.ok.kind]; rfl
  have hiσ : i < σ.length := by rw [I.len]; exact (List.getElem?_eq_some_iff.mp hi).1
  have cne := I.cne
  have tracked : ∀ {a : Addr} {h' : Heap}, (∃ o, s.heap.get? a = some o ∧ H a = none) → Heap.SameBut a s.heap h' → HOk X.prog X.w H h' := fun {a h'} ha hs b ob e => by
    obtain ⟨_, _, hfree⟩ := ha
    refine (I.hok b ob e).stay (fun c w' hc q => (hs.2 c ?_).trans q) (fun _ q => q) (fun _ _ q => q) fun _ _ _ q => q
    rintro rfl
    rcases hc with rfl | hc
    · rw [hfree] at e; cases e
    · rw [hfree] at hc; cases hc
  rcases hx with hk | hk
  · refine wpAny_storeName_local hk hn (fun h' hn' hs => ?_) hcls
    obtain ⟨oL, _, _, hoL, _⟩ := id hn
    refine h _ ⟨I.ok, I.os, I.bare, ⟨fun b o e n hb hx => ?_, fun b o e n hb hx => ?_, I.base.free, fun b o e hx => ?_, I.base.tups, I.base.frzs, I.base.tbls⟩, ⟨_, hn', fun j y v' e1 e2 e3 => ?_⟩, fun y c e => ?_, I.free, I.freeC, fun p hp => ?_, tracked ⟨oL, hoL, I.free⟩ hs, by simpa using I.len⟩ ⟨_, hs, .inl rfl⟩
    · exact (hs.2 b (Nat.ne_of_lt (Nat.lt_of_lt_of_le (Heap.lt_size e) I.ok.above))).trans (I.base.keep b o e n hb hx)
    · obtain ⟨sl, e1⟩ := I.base.slot b o e n hb hx
      exact ⟨sl, (hs.2 b (Nat.ne_of_lt (Nat.lt_of_lt_of_le (Heap.lt_size e) I.ok.above))).trans e1⟩
    · obtain ⟨o', e1⟩ := I.base.there b o e hx
      exact ⟨o', (hs.2 b (Nat.ne_of_lt (Nat.lt_of_lt_of_le (Heap.lt_size e) I.ok.above))).trans e1⟩
    · by_cases hj : j = i
      · subst hj
        rw [hi] at e1; cases e1
        rw [List.getElem?_set_self hiσ] at e2
        cases e2
        exact ⟨u, r, .inl ⟨hk, by simp⟩⟩
      · rw [List.getElem?_set_ne (Ne.symm hj)] at e2
        obtain ⟨u', r', q⟩ := hl j y v' e1 e2 e3
        refine ⟨u', r', ?_⟩
        rcases q with ⟨k, e⟩ | ⟨k, c, e, z⟩
        · refine .inl ⟨k, ?_⟩
          have : y ≠ x := fun e => hj (nodup_ix hN e1 (e ▸ hi))
          simp [this, e]
        · exact .inr ⟨k, c, e, z.sameBut hs (cne y c e)⟩
    · obtain ⟨w', z⟩ := I.cell y c e
      exact ⟨w', z.sameBut hs (cne y c e)⟩
    · obtain ⟨e, n, ne, nf, d⟩ := I.pin p hp
      exact ⟨(hs.2 p.1 ne).trans e, n, ne, nf, d⟩
  · have hfn : X.fn x = true := by
      rcases hf with z | z
      · exact z
      · rw [z] at hk; cases hk
    obtain ⟨c, hc⟩ := I.ok.has x (.inl hk)
    obtain ⟨w', z⟩ := I.cell x c hc
    refine wpAny_storeName_cell I.ok.kind hk hc z (fun h' hc' hs => ?_)
    obtain ⟨oc, hoc, hocd⟩ := id z
    refine h { s with heap := h' } ⟨I.ok, I.os, I.bare, ⟨fun b o e n hb hx => ?_, fun b o e n hb hx => ?_, I.base.free, fun b o e hx => ?_, I.base.tups, I.base.frzs, I.base.tbls⟩, ⟨m, hn.sameBut hs (Ne.symm (cne x c hc)), fun j y v' e1 e2 e3 => ?_⟩, fun y c' e => ?_, I.free, I.freeC, fun p hp => ?_, tracked ⟨oc, hoc, I.freeC x c hc⟩ hs, by simpa using I.len⟩ ⟨c, hs, .inr hc⟩
    · exact (hs.2 b (Nat.ne_of_lt (Nat.lt_of_lt_of_le (Heap.lt_size e) (I.ok.cab x c hfn hc)))).trans (I.base.keep b o e n hb hx)
    · obtain ⟨sl, e1⟩ := I.base.slot b o e n hb hx
      exact ⟨sl, (hs.2 b (Nat.ne_of_lt (Nat.lt_of_lt_of_le (Heap.lt_size e) (I.ok.cab x c hfn hc)))).trans e1⟩
    · obtain ⟨o', e1⟩ := I.base.there b o e hx
      exact ⟨o', (hs.2 b (Nat.ne_of_lt (Nat.lt_of_lt_of_le (Heap.lt_size e) (I.ok.cab x c hfn hc)))).trans e1⟩
    · by_cases hj : j = i
      · subst hj
        rw [hi] at e1; cases e1
        rw [List.getElem?_set_self hiσ] at e2
        cases e2
        exact ⟨u, r, .inr ⟨.inl hk, c, hc, hc'⟩⟩
      · rw [List.getElem?_set_ne (Ne.symm hj)] at e2
        obtain ⟨u', r', q⟩ := hl j y v' e1 e2 e3
        refine ⟨u', r', ?_⟩
        rcases q with q | ⟨k, c', e, z'⟩
        · exact .inl q
        · refine .inr ⟨k, c', e, z'.sameBut hs ?_⟩
          rintro rfl
          exact hj (nodup_ix hN e1 (I.ok.inj _ _ _ e hc ▸ hi))
    · by_cases hcc : c' = c
      · subst hcc; exact ⟨_, hc'⟩
      · obtain ⟨w2, z2⟩ := I.cell y c' e
        exact ⟨w2, z2.sameBut hs hcc⟩
    · obtain ⟨e, n, ne, nf, d⟩ := I.pin p hp
      refine ⟨(hs.2 p.1 ?_).trans e, n, ne, nf, d⟩
      intro q
      rw [q, hoc] at e
      have q' : oc = p.2 := Option.some.inj e
      exact d w' (by rw [← q']; exact hocd)
theorem store_ok {M : Model} {A : Around} {E : Value → Shared → Prop} {i : Nat} {x : Str} {v : V} {u : Value} {Q : Unit → Shared → Prop} (I : Inv X pins σ H s) (hN : X.N.Nodup) (hi : X.N[i]? = some x) (hx : Loc X.env.scope x) (r : RelV v u)
    (h : ∀ s', Inv X pins (σ.set i (some v)) H s' → Q () s') (hf : X.fn x = true ∨ X.env.scope.names.lookup x = some .local := by first | exact .inl rfl | exact .inr rfl | assumption) : wpAny M A (storeName X.env x u) Q E s :=
  store_ok2 I hN hi hx r (fun s' I' _ => h s' I') hf
theorem Inv.call' {s' : Shared} {ch : List Addr} (I : Inv X pins σ H s) (ho : s'.os = s.os) (u : Un (frs X.stack) ch H H' s.heap s'.heap) (hok : HOk X.prog X.w H' s'.heap) (hg : AllBare s'.gens)
    (hch : ∀ b ∈ ch, (b ∈ X.ex ∨ X.s₀.heap.objs.size ≤ b) ∧ b ≠ X.env.locals ∧ (∀ x c, X.env.cells.lookup x = some c → c ≠ b) ∧ ∀ p ∈ X.pn ++ pins, p.1 ≠ b) : Inv X pins σ H' s' := by
  obtain ⟨h', g', d', t', o'⟩ := s'
  have e : o' = s.os := ho
  subst e
  exact I.call (g' := g') (t' := t') (d' := d') u hok hg hch
end

/-! ### the judgements -/
abbrev XK := Value → Option Addr → Hp → Prop
abbrev St := List (Option V)
abbrev VK := V → Hp → Prop
abbrev TE := St → Hp → VK → Prop
abbrev TT := St → Hp → (Bool → Hp → Prop) → Prop
abbrev TA := St → Hp → (List V → Hp → Prop) → Prop
structure Ends where
  nx : St → Hp → Prop
  rt : VK
  bk : St → Hp → Prop := fun _ _ => False
  ct : St → Hp → Prop := fun _ _ => False
abbrev TS := Ends → St → Hp → Prop

def EP (X : Cx) (pins : List (Addr × Obj)) (σ : St) (Q : VK) (u : Value) (s' : Shared) : Prop := ∃ v H', Inv X pins σ H' s' ∧ RelV v u ∧ Q v H'
def TP (X : Cx) (pins : List (Addr × Obj)) (σ : St) (Q : Bool → Hp → Prop) (b : Bool) (s' : Shared) : Prop := ∃ H', Inv X pins σ H' s' ∧ Q b H'
def AP (X : Cx) (pins : List (Addr × Obj)) (σ : St) (Q : List V → Hp → Prop) (us : List Value) (s' : Shared) : Prop := ∃ vs H', Inv X pins σ H' s' ∧ Vals vs us ∧ Q vs H'
def SP (X : Cx) (pins : List (Addr × Obj)) (D : Ends) (f : Flow) (s' : Shared) : Prop :=
  match f with
  | .next => ∃ σ' H', Inv X pins σ' H' s' ∧ D.nx σ' H'
  | .brk => ∃ σ' H', Inv X pins σ' H' s' ∧ D.bk σ' H'
  | .cont => ∃ σ' H', Inv X pins σ' H' s' ∧ D.ct σ' H'
  | .ret u => ∃ v σ' H', Inv X pins σ' H' s' ∧ RelV v u ∧ D.rt v H'

@[irreducible] def PE (X : Cx) (e : Expr) (t : TE) : Prop :=
  ∀ (pins : List (Addr × Obj)) (s : Shared) (σ : St) (H : Hp) (Q : VK), Inv X pins σ H s → t σ H Q → wpAny (model X.prog X.w) X.A (eval e X.env) (EP X pins σ Q) X.xe s
@[irreducible] def PT (X : Cx) (e : Expr) (t : TT) : Prop :=
  ∀ (pins : List (Addr × Obj)) (s : Shared) (σ : St) (H : Hp) (Q : Bool → Hp → Prop), Inv X pins σ H s → t σ H Q → wpAny (model X.prog X.w) X.A (isTrue e X.env (eval e X.env)) (TP X pins σ Q) X.xe s
def PW (X : Cx) (e : Expr) (t : TT) : Prop :=
  ∀ (whole : Sem Value) (pins : List (Addr × Obj)) (s : Shared) (σ : St) (H : Hp) (Q : Bool → Hp → Prop), Inv X pins σ H s → t σ H Q → wpAny (model X.prog X.w) X.A (isTrue e X.env whole) (TP X pins σ Q) X.xe s
theorem PW.pt {X : Cx} {e : Expr} {t : TT} (h : PW X e t) : PT X e t := by
  with_unfolding_all
    exact h _
@[irreducible] def PA (X : Cx) (es : List Expr) (t : TA) : Prop :=
  ∀ (pos : Pos) (pins : List (Addr × Obj)) (s : Shared) (σ : St) (H : Hp) (Q : List V → Hp → Prop), Inv X pins σ H s → t σ H Q → wpAny (model X.prog X.w) X.A (spliced (backTo pos (starEach es X.env))) (AP X pins σ Q) X.xe s
@[irreducible] def PS (X : Cx) (st : Stmt) (t : TS) : Prop :=
  ∀ (pins : List (Addr × Obj)) (s : Shared) (σ : St) (H : Hp) (D : Ends), Inv X pins σ H s → t D σ H → wpAny (model X.prog X.w) X.A (exec st X.env) (SP X pins D) X.xe s
@[irreducible] def PSs (X : Cx) (st : List Stmt) (t : TS) : Prop :=
  ∀ (pins : List (Addr × Obj)) (s : Shared) (σ : St) (H : Hp) (D : Ends), Inv X pins σ H s → t D σ H → wpAny (model X.prog X.w) X.A (execs st X.env) (SP X pins D) X.xe s
theorem thn {α : Type} {t : Sem α} {Q Q' : α → Shared → Prop} {M : Model} {A : Around} {E : Value → Shared → Prop} {s : Shared} (h : wpAny M A t Q E s) (hQ : ∀ a s, Q a s → Q' a s) : wpAny M A t Q' E s := wpAny_mono h hQ fun _ _ x => x
end L2

namespace L2
open PySem PySem.Spec PyProof.Rows
section
variable {X : Cx}

/-! ### names and constants -/
def tVar (i : Nat) : TE := fun σ H Q => ∃ v, σ[i]? = some (some v) ∧ Q v H
def tC (v : V) : TE := fun _ H Q => Q v H
theorem pe_var {i : Nat} {x : Str} {pos : Pos} (hN : X.N[i]? = some x) (hv : Vis X.env.scope x) (hd : (x == ("__debug__" : Str)) = false := by decide) (hcd : (x == ("__classdict__" : Str)) = false := by decide) : PE X (.Name x pos) (tVar i) := by
  with_unfolding_all
    intro pins s σ H Q I h
    obtain ⟨v, e, h⟩ := h
    obtain ⟨m, hn, hl⟩ := I.loc
    obtain ⟨u, r, l⟩ := hl i x v hN e hv
    have fin : EP X pins σ Q u s := ⟨v, H, I, r, h⟩
    rcases l with ⟨hk, hm⟩ | ⟨hk, c, hc, hcell⟩
    · exact wpAny_Name (wpAny_loadName_local I.ok.kind hk hn hm fin) hd
    · rcases hk with hk | hk
      · exact wpAny_Name (wpAny_loadName_cell I.ok.kind hk hc hcell fin) hd
      · exact wpAny_Name (wpAny_loadName_free I.ok.kind hk hc hcell fin hcd) hd
theorem pe_int {i j pos} : PE X (.Constant (.int i) j pos) (tC (.int i)) := by
  with_unfolding_all
    exact fun _ _ _ H _ I h => wpAny_Constant_int ⟨.int i, H, I.tok _, ⟨_, rfl⟩, h⟩
theorem pe_bl {b j pos} : PE X (.Constant (.bool b) j pos) (tC (.bl b)) := by
  with_unfolding_all
    exact fun _ _ _ H _ I h => Constant_bool ⟨.bl b, H, I, rfl, h⟩
theorem pe_non {j pos} : PE X (.Constant .none j pos) (tC .non) := by
  with_unfolding_all
    exact fun _ _ _ H _ I h => Constant_none ⟨.non, H, I, rfl, h⟩
theorem pe_str {x j pos} : PE X (.Constant (.str x) j pos) (tC (.str x)) := by
  with_unfolding_all
    exact fun _ _ _ H _ I h => Calls.Constant_str ⟨.str x, H, I.tok _, ⟨_, rfl⟩, h⟩

def Gl (X : Cx) (x : Str) : Prop := X.env.kindOf x = some .globalImplicit
theorem ld_glob {E : Value → Shared → Prop} {pins : List (Addr × Obj)} {s : Shared} {σ : St} {H : Hp} {x : Str} {u : Value} {pos : Pos} {Q : Value → Shared → Prop} (I : Inv X pins σ H s) (hg : Gl X x) (hm : X.mg x = some u) (h : Q u s)
    (hd : (x == ("__debug__" : Str)) = false := by decide) : wpAny (model X.prog X.w) X.A (eval (.Name x pos) X.env) Q E s :=
  Calls.Name_function_global I.ok.kind hg (Calls.loadGlobal_global (by rw [I.ok.glob]; exact I.mod.glob.keeps I.bk) hm h) hd
theorem ld_blt {E : Value → Shared → Prop} {pins : List (Addr × Obj)} {s : Shared} {σ : St} {H : Hp} {x : Str} {u : Value} {pos : Pos} {Q : Value → Shared → Prop} (I : Inv X pins σ H s) (hg : Gl X x) (hm : X.mg x = none) (hv : bootBuiltins x = some u) (h : Q u s)
    (hn : x ≠ "__name__" := by decide) (hd : (x == ("__debug__" : Str)) = false := by decide) : wpAny (model X.prog X.w) X.A (eval (.Name x pos) X.env) Q E s := by
  obtain ⟨mb, h1, h2⟩ := I.mod.blt
  exact Calls.Name_function_global I.ok.kind hg (Calls.loadGlobal_builtin (by rw [I.ok.glob]; exact I.mod.glob.keeps I.bk) hm (by rw [I.ok.blt]; exact h1.keeps I.bk) ((h2 x hn).trans hv) h) hd
theorem pe_glob {x : Str} {v : V} {u : Value} {pos : Pos} (hg : Gl X x) (hm : X.mg x = some u) (r : RelV v u) (hd : (x == ("__debug__" : Str)) = false := by decide) : PE X (.Name x pos) (tC v) := by
  with_unfolding_all
    exact fun _ _ _ H _ I h => ld_glob I hg hm ⟨v, H, I, r, h⟩ hd
theorem pe_bltn {x : Str} {v : V} {u : Value} {pos : Pos} (hg : Gl X x) (hm : X.mg x = none) (hv : bootBuiltins x = some u) (r : RelV v u) (hn : x ≠ "__name__" := by decide) (hd : (x == ("__debug__" : Str)) = false := by decide) : PE X (.Name x pos) (tC v) := by
  with_unfolding_all
    exact fun _ _ _ H _ I h => ld_blt I hg hm hv ⟨v, H, I, r, h⟩ hn hd

/-! ### arithmetic -/
variable {a b : Expr} {ta tb : TE} {pos : Pos}
/-! ### comparisons -/
def tB (t : TE) : TT := fun σ H Q => t σ H fun x H1 => ∃ c, x = .bl c ∧ Q c H1
theorem pt_val {e : Expr} {t : TE} (h : PE X e t) (he : ∀ whole, isTrue e X.env whole = (do let v ← whole; standAt e.pos; holding [v] (truthy v)) := by intro _; rfl) : PT X e (tB t) := by
  with_unfolding_all
    intro pins s σ H Q I hw
    refine isTrue_plain (thn (h pins s σ H _ I hw) fun v s1 ⟨x, H1, I1, r1, q1⟩ => ?_) (he _)
    obtain ⟨d, rfl, q⟩ := q1
    cases r1
    exact wpAny_truthy_bool ⟨H1, I1, q⟩

/-! ### and, or, not -/
variable {tA tB' : TT} {rest : List Expr}
def tAnd (t u : TT) : TT := fun σ H Q => t σ H fun c H1 => if c = true then u σ H1 Q else Q false H1
def tOr (t u : TT) : TT := fun σ H Q => t σ H fun c H1 => if c = true then Q true H1 else u σ H1 Q
def tNot (t : TT) : TT := fun σ H Q => t σ H fun c H1 => Q (!c) H1
theorem pw_and1 (ha : PT X a tA) : PW X (.BoolOp .And [a] pos) tA := by
  with_unfolding_all
    intro wh pins s σ H Q I h
    refine isTrue_and (thn (ha pins s σ H Q I h) fun c s1 e => ?_)
    cases c with
    | true => exact isTrue_and_nil e
    | false => exact e
theorem pw_or1 (ha : PT X a tA) : PW X (.BoolOp .Or [a] pos) tA := by
  with_unfolding_all
    intro wh pins s σ H Q I h
    refine isTrue_or (thn (ha pins s σ H Q I h) fun c s1 e => ?_)
    cases c with
    | false => exact isTrue_or_nil e
    | true => exact e
theorem pw_and (ha : PT X a tA) (hb : PW X (.BoolOp .And (b :: rest) pos) tB') : PW X (.BoolOp .And (a :: b :: rest) pos) (tAnd tA tB') := by
  with_unfolding_all
    intro wh pins s σ H Q I h
    refine isTrue_and (thn (ha pins s σ H _ I h) fun c s1 ⟨H1, I1, q1⟩ => ?_)
    cases c with
    | true => exact hb wh pins s1 σ H1 Q I1 q1
    | false => exact ⟨H1, I1, q1⟩
theorem pw_or (ha : PT X a tA) (hb : PW X (.BoolOp .Or (b :: rest) pos) tB') : PW X (.BoolOp .Or (a :: b :: rest) pos) (tOr tA tB') := by
  with_unfolding_all
    intro wh pins s σ H Q I h
    refine isTrue_or (thn (ha pins s σ H _ I h) fun c s1 ⟨H1, I1, q1⟩ => ?_)
    cases c with
    | true => exact ⟨H1, I1, q1⟩
    | false => exact hb wh pins s1 σ H1 Q I1 q1
theorem pt_not (ha : PT X a tA) : PT X (.UnaryOp .Not a pos) (tNot tA) := by
  with_unfolding_all
    intro pins s σ H Q I h
    exact isTrue_not (ha pins s σ H (fun c H1 => Q (!c) H1) I h)
def tAndV (ta tb : TE) : TE := fun σ H Q => ta σ H fun x H1 => ∃ c, x = .bl c ∧ if c = true then tb σ H1 Q else Q (.bl false) H1
theorem pe_one {op} {t : TE} (h : PE X a t) : PE X (.BoolOp op [a] pos) t := by
  with_unfolding_all
    exact fun pins s σ H Q I hw => BoolOp_one (h pins s σ H Q I hw)
theorem pe_and (ha : PE X a ta) (hb : PE X (.BoolOp .And (b :: rest) pos) tb) : PE X (.BoolOp .And (a :: b :: rest) pos) (tAndV ta tb) := by
  with_unfolding_all
    intro pins s σ H Q I h
    refine BoolOp_and (thn (ha pins s σ H _ I h) fun v s1 ⟨x, H1, I1, r1, q1⟩ => ?_)
    obtain ⟨c, rfl, q1⟩ := q1
    cases r1
    refine wpAny_truthy_bool ?_
    cases c with
    | true => exact hb pins s1 σ H1 Q I1 q1
    | false => exact ⟨.bl false, H1, I1, rfl, q1⟩
def tIf (t : TT) (ta tb : TE) : TE := fun σ H Q => t σ H fun c H1 => if c = true then ta σ H1 Q else tb σ H1 Q
theorem pe_ifExp {c : Expr} (hc : PT X c tA) (ha : PE X a ta) (hb : PE X b tb) : PE X (.IfExp c a b pos) (tIf tA ta tb) := by
  with_unfolding_all
    intro pins s σ H Q I h
    refine wpAny_IfExp (thn (hc pins s σ H _ I h) fun d s1 ⟨H1, I1, q1⟩ => ?_)
    cases d with
    | true => exact ha pins s1 σ H1 Q I1 q1
    | false => exact hb pins s1 σ H1 Q I1 q1
end
end L2

namespace L2
open PySem PySem.Spec PyProof.Rows

/-! ### a list, a tuple that is read: tracked, frozen, or an object of the module -/
def SqL (K : PySem.W.Frag) (H : Hp) (a : Addr) (xs : List V) : Prop :=
  Rd H a (.lst xs) ∨
    ∃ (o : Obj) (its : Array Value) (n : Nat), K.lookup a = some o ∧ o.cls = .type "list" ∧ o.dict = none ∧ o.data = .seq its n ∧ its.size ≤ sizeLine ∧ Vals xs its.toList
def SqT (K : PySem.W.Frag) (H : Hp) (a : Addr) (xs : List V) : Prop :=
  Rd H a (.tup xs) ∨
    ∃ (o : Obj) (its : Array Value) (n : Nat), K.lookup a = some o ∧ o.cls = .type "tuple" ∧ o.data = .seq its n ∧ its.size ≤ sizeLine ∧ Vals xs its.toList
def absV : Value → Option V
  | .none => some .non
  | .bool b => some (.bl b)
  | .int i _ => some (.int i)
  | .str x _ => some (.str x)
  | .bytes b _ => some (.byt b)
  | .float b _ => some (.flt b)
  | .ref a => some (.ref a)
  | .type n => some (.ty n)
  | _ => none
theorem RelV.abs {x : V} {u : Value} (r : RelV x u) : absV u = some x := by
  cases x with
  | non => cases r; rfl
  | bl _ => cases r; rfl
  | int _ => obtain ⟨t, rfl⟩ := r; rfl
  | str _ => obtain ⟨t, rfl⟩ := r; rfl
  | byt _ => obtain ⟨t, rfl⟩ := r; rfl
  | flt _ => obtain ⟨t, rfl⟩ := r; rfl
  | ref _ => cases r; rfl
  | ty _ => cases r; rfl
theorem RelV.inj {x y : V} {u : Value} (r : RelV x u) (q : RelV y u) : x = y := Option.some.inj (r.abs.symm.trans q.abs)
theorem Vals.inj : ∀ {xs ys : List V} {us : List Value}, Vals xs us → Vals ys us → xs = ys
  | _, _, _, .nil, .nil => rfl
  | _, _, _, .cons r t, .cons r' t' => by rw [r.inj r', Vals.inj t t']
section
variable {X : Cx} {pins : List (Addr × Obj)} {σ : St} {H : Hp} {s : Shared} {a : Addr} {xs ys : List V}
theorem SqL.of {K : PySem.W.Frag} (h : H a = some (.lst xs)) : SqL K H a xs := .inl (.inl h)
theorem SqT.of {K : PySem.W.Frag} (h : H a = some (.tup xs)) : SqT K H a xs := .inl (.inl h)
theorem Inv.list (I : Inv X pins σ H s) (h : SqL X.K H a xs) : ∃ its : List Value, Vals xs its ∧ PlainL s.heap a its.toArray ∧ xs.length ≤ sizeLine := by
  rcases h with h | ⟨o, its, n, hk, hc, hd, hs, hz, r⟩
  · obtain ⟨z, its, n, r, e⟩ := h.ok I.hok
    exact ⟨its, r, ⟨_, n, e, rfl, rfl, rfl⟩, z⟩
  · refine ⟨its.toList, r, ⟨o, n, I.kIn a o hk, hc, hd, by simpa using hs⟩, ?_⟩
    have e := r.length
    simp only [Array.length_toList] at e
    omega
theorem Inv.tuple (I : Inv X pins σ H s) (h : SqT X.K H a xs) : ∃ its : List Value, Vals xs its ∧ IsTup s.heap a its.toArray ∧ xs.length ≤ sizeLine := by
  rcases h with h | ⟨o, its, n, hk, hc, hs, hz, r⟩
  · obtain ⟨z, its, r, p⟩ := h.ok I.hok
    exact ⟨its, r, p, z⟩
  · refine ⟨its.toList, r, ⟨o, I.kIn a o hk, hc, n, by simpa using hs⟩, ?_⟩
    have e := r.length
    simp only [Array.length_toList] at e
    omega
theorem Inv.list_inj (I : Inv X pins σ H s) (h : SqL X.K H a xs) (h' : SqL X.K H a ys) : xs = ys := by
  obtain ⟨its, r, ⟨o, n, e, _, _, d⟩, _⟩ := I.list h
  obtain ⟨its', r', ⟨o', n', e', _, _, d'⟩, _⟩ := I.list h'
  rw [e] at e'; cases e'
  rw [d] at d'
  injection d' with d1 _
  have : its = its' := by simpa using congrArg Array.toList d1
  subst this
  exact r.inj r'
end

/-! ### another wish about exceptions -/
abbrev Cx.wish (X : Cx) (E : Value → Shared → Prop) : Cx := { X with xe := E }
abbrev Cx.nox (X : Cx) : Cx := X.wish fun _ _ => False
theorem Cx.Ok.wish {X : Cx} (ok : X.Ok) (E : Value → Shared → Prop) : (X.wish E).Ok :=
  ⟨ok.mod, ok.kind, ok.glob, ok.blt, ok.above, ok.inj, ok.has, ok.cab, ok.hd, ok.frames, ok.stk, ok.exf, ok.bs, ok.bsz, ok.noex, ok.exfs, ok.funs, ok.frf⟩
theorem Cx.Ok.unwish {X : Cx} {E : Value → Shared → Prop} (ok : (X.wish E).Ok) : X.Ok :=
  ⟨ok.mod, ok.kind, ok.glob, ok.blt, ok.above, ok.inj, ok.has, ok.cab, ok.hd, ok.frames, ok.stk, ok.exf, ok.bs, ok.bsz, ok.noex, ok.exfs, ok.funs, ok.frf⟩
section
variable {X : Cx} {pins : List (Addr × Obj)} {σ : St} {H : Hp} {s : Shared} {E : Value → Shared → Prop}
theorem Inv.wish (I : Inv X pins σ H s) (E : Value → Shared → Prop) : Inv (X.wish E) pins σ H s := ⟨I.ok.wish E, I.os, I.bare, I.base, I.loc, I.cell, I.free, I.freeC, I.pin, I.hok, I.len⟩
theorem Inv.unwish (I : Inv (X.wish E) pins σ H s) : Inv X pins σ H s := ⟨I.ok.unwish, I.os, I.bare, I.base, I.loc, I.cell, I.free, I.freeC, I.pin, I.hok, I.len⟩
theorem SP.unwish {D : Ends} {f : Flow} {s' : Shared} (h : SP (X.wish E) pins D f s') : SP X pins D f s' := by
  cases f with
  | next => obtain ⟨σ', H', I, q⟩ := h; exact ⟨σ', H', I.unwish, q⟩
  | brk => obtain ⟨σ', H', I, q⟩ := h; exact ⟨σ', H', I.unwish, q⟩
  | cont => obtain ⟨σ', H', I, q⟩ := h; exact ⟨σ', H', I.unwish, q⟩
  | ret u => obtain ⟨v, σ', H', I, r, q⟩ := h; exact ⟨v, σ', H', I.unwish, r, q⟩
theorem PSs.nox {st : List Stmt} {t : TS} (h : PSs X.nox st t) : PSs X st t := by
  with_unfolding_all
    exact fun pins s σ H D I hw =>
      wpAny_mono (h pins s σ H D (I.wish _) hw) (fun _ _ q => q.unwish) fun _ _ z => False.elim z
end

/-! ### blocks and small statements -/
section
variable {X : Cx} {st : Stmt} {rest : List Stmt} {t u : TS} {e : Expr} {te : TE} {pos : Pos}
def tNext : TS := fun D σ H => D.nx σ H
def tSeq (t u : TS) : TS := fun D σ H => t { D with nx := u D } σ H
theorem pss_nil : PSs X [] tNext := by
  with_unfolding_all
    exact fun _ _ σ H _ I h => wpAny_execs_nil ⟨σ, H, I, h⟩
theorem pss_cons (h1 : PS X st t) (h2 : PSs X rest u) : PSs X (st :: rest) (tSeq t u) := by
  with_unfolding_all
    intro pins s σ H D I h
    refine wpAny_execs_cons (thn (h1 pins s σ H { D with nx := u D } I h) fun f s1 q => ?_)
    cases f with
    | next =>
      obtain ⟨σ', H', I', q⟩ := q
      exact h2 pins s1 σ' H' D I' q
    | ret v => exact q
    | brk => exact q
    | cont => exact q
theorem pss_one (h1 : PS X st t) : PSs X [st] t := by
  with_unfolding_all
    intro pins s σ H D I h
    refine wpAny_execs_cons (thn (h1 pins s σ H D I h) fun f s1 q => ?_)
    cases f with
    | next => exact wpAny_execs_nil q
    | ret v => exact q
    | brk => exact q
    | cont => exact q
theorem Inv.quiet {pins : List (Addr × Obj)} {σ : St} {H : Hp} {s : Shared} (I : Inv X pins σ H s) : interactive X.env = false := by simp [interactive, I.ok.kind]
def tDrop (te : TE) : TS := fun D σ H => te σ H fun _ H1 => D.nx σ H1
theorem ps_expr (he : PE X e te) (hs : swapsWith e none pos.line X.env = pure false := by rfl) : PS X (.Expr e pos) (tDrop te) := by
  with_unfolding_all
    intro pins s σ H D I h
    exact wpAny_Expr_any (thn (he pins s σ H _ I h) fun v s1 ⟨x, H1, I1, r1, q1⟩ => ⟨σ, H1, I1, q1⟩) I.quiet hs
def tRet (te : TE) : TS := fun D σ H => te σ H D.rt
theorem ps_ret (he : PE X e te) : PS X (.Return (some e) pos) (tRet te) := by
  with_unfolding_all
    intro pins s σ H D I h
    exact wpAny_Return_some (thn (he pins s σ H _ I h) fun v s1 ⟨x, H1, I1, r1, q1⟩ => ⟨x, σ, H1, I1, r1, q1⟩)
def tIfS (c : TT) (t u : TS) : TS := fun D σ H => c σ H fun b H1 => if b = true then t D σ H1 else u D σ H1
theorem ps_if {c : Expr} {a b : List Stmt} {tc : TT} (hc : PT X c tc) (ha : PSs X a t) (hb : PSs X b u) : PS X (.If c a b pos) (tIfS tc t u) := by
  with_unfolding_all
    intro pins s σ H D I h
    refine wpAny_If (thn (hc pins s σ H _ I h) fun d s1 ⟨H1, I1, q1⟩ => ?_)
    cases d with
    | true => exact ha pins s1 σ H1 D I1 q1
    | false => exact hb pins s1 σ H1 D I1 q1
end

/-! ### targets -/
abbrev TG := V → St → Hp → (St → Hp → Prop) → Prop
abbrev TGs := List V → St → Hp → (St → Hp → Prop) → Prop
def PG (X : Cx) (target : Expr) (t : TG) : Prop :=
  ∀ (pins : List (Addr × Obj)) (s : Shared) (σ : St) (H : Hp) (v : V) (u : Value) (Q : St → Hp → Prop), Inv X pins σ H s → RelV v u → t v σ H Q →
    wpAny (model X.prog X.w) X.A (assign target X.env u) (fun _ s' => ∃ σ' H', Inv X pins σ' H' s' ∧ Q σ' H') X.xe s
def PGs (X : Cx) (ts : List Expr) (t : TGs) : Prop :=
  ∀ (pins : List (Addr × Obj)) (s : Shared) (σ : St) (H : Hp) (vs : List V) (us : List Value) (Q : St → Hp → Prop), Inv X pins σ H s → Vals vs us → t vs σ H Q →
    wpAny (model X.prog X.w) X.A (assignInOrder ((assignEach ts X.env).map (·.2)) us) (fun _ s' => ∃ σ' H', Inv X pins σ' H' s' ∧ Q σ' H') X.xe s
section
variable {X : Cx} {pos : Pos}
def gName (i : Nat) : TG := fun v σ H Q => Q (σ.set i (some v)) H
theorem pg_name {i : Nat} {x : Str} (hN : X.N.Nodup) (hi : X.N[i]? = some x) (hx : Loc X.env.scope x) (hf : X.fn x = true ∨ X.env.scope.names.lookup x = some .local := by first | exact .inl rfl | exact .inr rfl | assumption) : PG X (.Name x pos) (gName i) := by
  intro pins s σ H v u Q I r h
  exact wpAny_assign_Name (store_ok I hN hi hx r (fun s' I' => ⟨_, H, I', h⟩) hf)
def gNil : TGs := fun vs σ H Q => vs = [] ∧ Q σ H
def gCons (t : TG) (u : TGs) : TGs := fun vs σ H Q => ∃ v r, vs = v :: r ∧ t v σ H fun σ' H' => u r σ' H' Q
theorem pgs_nil : PGs X [] gNil := by
  intro pins s σ H vs us Q I r h
  obtain ⟨e, h⟩ := h
  subst e
  cases r
  exact assignInOrder_nil ⟨σ, H, I, h⟩
theorem pgs_cons {e : Expr} {es : List Expr} {t : TG} {u : TGs} (h1 : PG X e t) (h2 : PGs X es u)
    (hs : (assignEach (e :: es) X.env).map (·.2) = assign e X.env :: (assignEach es X.env).map (·.2) := by rfl) : PGs X (e :: es) (gCons t u) := by
  intro pins s σ H vs us Q I r h
  obtain ⟨v, vr, e1, h⟩ := h
  subst e1
  cases r with
  | cons r rr =>
    rw [hs]
    refine assignInOrder_cons (thn (h1 pins s σ H _ _ _ I r h) fun _ s1 ⟨σ1, H1, I1, q1⟩ => ?_)
    exact h2 pins s1 σ1 H1 _ _ Q I1 rr q1
def gTup (K : PySem.W.Frag) (n : Nat) (t : TGs) : TG := fun v σ H Q => ∃ a xs, v = .ref a ∧ SqT K H a xs ∧ xs.length = n ∧ t xs σ H Q
theorem pg_tup {es : List Expr} {k : Nat} {t : TGs} {n : Nat} (hc : X.calm = true) (h : PGs X es t)
    (hn : (assignEach es X.env).length = n := by rfl) (hst : (assignEach es X.env).findIdx? (·.1) = none := by rfl) : PG X (.Tuple es k pos) (gTup X.K n t) := by
  intro pins s σ H v u Q I r hw
  obtain ⟨a, xs, e1, hq, hl, hw⟩ := hw
  subst e1
  cases r
  obtain ⟨its, rv, ht, hz⟩ := I.tuple hq
  refine assign_Tuple_tuple (I.ok.hd hc) ht (by simp [hn, ← hl, rv.length]) hst fun h' hx => ?_
  have I1 : Inv X pins σ H { s with heap := h' } := I.kept (t' := s.toks) fun b o e => hx b o (Nat.ne_of_lt (Heap.lt_size e)) e
  exact h pins _ σ H xs _ Q I1 (by simpa using rv) hw
def tAsg (te : TE) (g : TG) : TS := fun D σ H => te σ H fun x H1 => g x σ H1 D.nx
theorem ps_asg {tg e : Expr} {te : TE} {g : TG} (he : PE X e te) (hg : PG X tg g) (hs : swapsWithSole [tg] e pos.line X.env = pure false := by rfl) (hw : swappedStores [tg] e X.env = pure none := by rfl)
    (h1 : (assignEach [tg] X.env).map (·.2) = [assign tg X.env] := by rfl) : PS X (.Assign [tg] e pos) (tAsg te g) := by
  with_unfolding_all
    intro pins s σ H D I h
    refine wpAny_Assign_stores (thn (he pins s σ H _ I h) fun v s1 ⟨x, H1, I1, r1, q1⟩ => ?_) hs hw
    rw [h1]
    exact thn (hg pins s1 σ H1 x v _ I1 r1 q1) fun _ s2 q => q
theorem ps_set {i : Nat} {x : Str} {e : Expr} {te : TE} {pos' : Pos} (hN : X.N.Nodup) (hi : X.N[i]? = some x) (hx : Loc X.env.scope x) (he : PE X e te) (hs : swapsWith e (some (.Name x pos')) pos.line X.env = pure false := by rfl) (hf : X.fn x = true ∨ X.env.scope.names.lookup x = some .local := by first | exact .inl rfl | exact .inr rfl | assumption) :
    PS X (.Assign [.Name x pos'] e pos) (tAsg te (gName i)) := by
  with_unfolding_all
    intro pins s σ H D I h
    refine wpAny_Assign_Name (thn (he pins s σ H _ I h) fun v s1 ⟨y, H1, I1, r1, q1⟩ => ?_) hs
    exact store_ok I1 hN hi hx r1 (fun s2 I2 => ⟨_, H1, I2, q1⟩) hf
def tPar (i j : Nat) (ta : TA) : TS := fun D σ H => ta σ H fun vs H1 => ∃ v w, vs = [v, w] ∧ D.nx ((σ.set i (some v)).set j (some w)) H1
theorem ps_par {i j : Nat} {x y : Str} {a b : Expr} {ta : TA} {px py pt : Pos} {kt k2 pt2} (hc : X.calm = true) (hN : X.N.Nodup) (hi : X.N[i]? = some x) (hj : X.N[j]? = some y) (hij : i ≠ j)
    (hx : X.env.scope.names.lookup x = some .local) (hy : X.env.scope.names.lookup y = some .local) (ha : PA X [a, b] ta)
    (hw : swappedStores [.Tuple [.Name x px, .Name y py] kt pt] (.Tuple [a, b] k2 pt2) X.env = pure (some [x, y]))
    (hs : swapsWithSole [.Tuple [.Name x px, .Name y py] kt pt] (.Tuple [a, b] k2 pt2) pos.line X.env = pure false := by rfl) :
    PS X (.Assign [.Tuple [.Name x px, .Name y py] kt pt] (.Tuple [a, b] k2 pt2) pos) (tPar i j ta) := by
  with_unfolding_all
    intro pins s σ H D I h
    rw [exec_Assign_arm]
    refine wpAny_bind (wpAny_standAt ?_)
    rw [hs]
    refine wpAny_bind (wpAny_pure ?_)
    rw [if_neg (by decide)]
    refine wpAny_bind (Tuple_ (thn (ha _ pins s σ H _ I h) fun us s1 ⟨vs, H1, I1, r1, q1⟩ => ?_))
    obtain ⟨v, w, e1, q1⟩ := q1
    subst e1
    obtain ⟨u1, u2, rfl, rv, rw'⟩ : ∃ u1 u2, us = [u1, u2] ∧ RelV v u1 ∧ RelV w u2 := by
      cases r1 with
      | cons p q =>
        cases q with
        | cons p' q' =>
          cases q'
          exact ⟨_, _, rfl, p, p'⟩
    refine wpAny_newObj_type ?_ (by show 2 ≤ sizeLine; decide)
    have I2 : Inv X pins σ H1 { s1 with heap := s1.heap.push { cls := .type "tuple", data := .seq [u1, u2].toArray } } := I1.kept (t' := s1.toks) fun b o e => Heap.get?_push_of_some _ e
    rw [hw]
    refine wpAny_bind (wpAny_pure ?_)
    show wpAny (model X.prog X.w) X.A (do rule "assign.swapped-stores"; let items ← unpackItems (.ref s1.heap.objs.size) 2 none; assignInOrder [fun v => bindName X.env y v, fun v => bindName X.env x v] items.reverse; pure Flow.next) _ _ _
    refine wpAny_bind (wpAny_rule (wpAny_bind (unpackItems_tuple (items := #[u1, u2]) (I.ok.hd hc) (IsTup.new s1.heap _) fun h' hx' => ?_)))
    have I3 := I2.kept (h' := h') (t' := s1.toks) fun b o e => hx' b o (Nat.ne_of_lt (Heap.lt_size e)) e
    show wpAny _ _ (assignInOrder [fun v => bindName X.env y v, fun v => bindName X.env x v] [u2, u1] >>= fun _ => pure Flow.next) _ _ _
    refine wpAny_bind (assignInOrder_cons (wpAny_bindName (store_ok I3 hN hj (.inl hy) rw' (fun s2 I4 => ?_) (.inr hy))))
    refine assignInOrder_cons (wpAny_bindName (store_ok I4 hN hi (.inl hx) rv (fun s3 I5 => assignInOrder_nil (wpAny_pure ?_)) (.inr hx)))
    rw [List.set_comm _ _ (Ne.symm hij)] at I5
    exact ⟨_, H1, I5, q1⟩
end

/-! ### while -/
section
variable {X : Cx} {pos : Pos}
def tWhile (c : TT) (tb : TS) : TS := fun D σ H => ∃ W : Nat → St → Hp → Prop, (∃ m, W m σ H) ∧ ∀ m σ H, W m σ H →
  c σ H fun b H1 => if b = true then ∃ N : St → Hp → Prop, (∀ σ' H', N σ' H' → ∃ m', m' < m ∧ W m' σ' H') ∧ tb { D with nx := N, ct := N, bk := D.nx } σ H1 else D.nx σ H1
theorem ps_while {c : Expr} {body : List Stmt} {tc : TT} {tb : TS} (hp : PassesOwn (model X.prog X.w) X.A X.env X.xe) (hc : PT X c tc) (hb : PSs X body tb) : PS X (.While c body [] pos) (tWhile tc tb) := by
  with_unfolding_all
    intro pins s σ H D I h
    obtain ⟨W, ⟨m0, w0⟩, turn⟩ := h
    refine wpAny_While (codeAny_whileLoop (fun n s' => ∃ σ' H', Inv X pins σ' H' s' ∧ W n σ' H') ?_ m0 ⟨σ, H, I, w0⟩)
    rintro n s1 ⟨σ1, H1, I1, w1⟩
    refine wpAny_passesOwn hp (thn (hc pins s1 σ1 H1 _ I1 (turn n σ1 H1 w1)) fun b s2 ⟨H2, I2, q2⟩ => ?_)
    cases b with
    | true =>
      obtain ⟨N, hN, q2⟩ := q2
      rw [if_pos rfl]
      refine wpAny_passesOwn hp (thn (hb pins s2 σ1 H2 _ I2 q2) fun f s3 q3 => ?_)
      cases f with
      | next =>
        obtain ⟨σ3, H3, I3, n3⟩ := q3
        obtain ⟨m', hm, w3⟩ := hN σ3 H3 n3
        exact ⟨m', hm, σ3, H3, I3, w3⟩
      | cont =>
        obtain ⟨σ3, H3, I3, n3⟩ := q3
        obtain ⟨m', hm, w3⟩ := hN σ3 H3 n3
        exact ⟨m', hm, σ3, H3, I3, w3⟩
      | brk => exact q3
      | ret v => exact q3
    | false =>
      rw [if_neg Bool.false_ne_true]
      exact wpAny_execs_nil ⟨σ1, H2, I2, q2⟩
end

/-! ### what a loop or a comprehension walks -/
structure It where
  go : Nat → Hp → Prop
  yld : Nat → Hp → V → Hp → Prop
  stop : Nat → Hp → Prop
def FpOk (X : Cx) (pins : List (Addr × Obj)) (H : Hp) (b : Addr) : Prop :=
  H b = none ∧ b ≠ X.env.locals ∧ b ∉ X.fs ∧ (b ∈ X.ex ∨ X.s₀.heap.objs.size ≤ b) ∧ (∀ x c, X.env.cells.lookup x = some c → c ≠ b) ∧ ∀ p ∈ X.pn ++ pins, p.1 ≠ b
theorem Inv.fpOk {X : Cx} {pins : List (Addr × Obj)} {σ : St} {H H' : Hp} {s : Shared} {b : Addr} (I : Inv X pins σ H s) (hb : s.heap.objs.size ≤ b) (hn : H' b = none) : FpOk X pins H' b := by
  refine ⟨hn, Nat.ne_of_gt (Nat.lt_of_lt_of_le I.lt hb), I.nofs hb, .inr (Nat.le_trans I.sz hb), fun x c e z => ?_, fun p hp z => ?_⟩
  · obtain ⟨v, q⟩ := I.cell x c e
    exact absurd (Nat.lt_of_lt_of_le q.lt (by rw [z]; exact hb)) (Nat.lt_irrefl _)
  · exact absurd (Nat.lt_of_lt_of_le (Heap.lt_size (I.pin p hp).1) (by rw [z]; exact hb)) (Nat.lt_irrefl _)
structure Turn (P : Program) (w : World) (K : PySem.W.Frag) (tg : Expr) (J : It) (fp : List Addr) (it : Addr) (tn : Nat → Heap → Prop) : Prop where
  mem : it ∈ fp
  obj : ∀ i h, tn i h → ∀ b ∈ fp, ∃ o, h.get? b = some o ∧ ∀ v, o.data ≠ .cell v
  keep : ∀ i h h', tn i h → (∀ b ∈ fp, ∀ o, h.get? b = some o → h'.get? b = some o) → tn i h'
  item : ∀ (X : Cx), X.prog = P → X.w = w → X.K = K → X.calm = true → ∀ (i : Nat) (pins : List (Addr × Obj)) (s : Shared) (σ : St) (H : Hp) (E : Value → Shared → Prop), Inv X pins σ H s → (∀ b ∈ fp, FpOk X pins H b) → tn i s.heap → J.go i H →
    wpAny (model P w) X.A (pyNext (.ref it)) (fun r s1 => ∃ u, r = some u ∧
      wpAny (model P w) X.A (letOwnedTupleGo tg (.ref it) u) (fun _ s2 => ∃ x H', Inv X pins σ H' s2 ∧ RelV x u ∧ J.yld i H x H' ∧ tn (i + 1) s2.heap ∧ ∀ b ∈ fp, H' b = none) E s1) E s
  done : ∀ (X : Cx), X.prog = P → X.w = w → X.K = K → X.calm = true → ∀ (i : Nat) (pins : List (Addr × Obj)) (s : Shared) (σ : St) (H : Hp) (E : Value → Shared → Prop), Inv X pins σ H s → (∀ b ∈ fp, FpOk X pins H b) → tn i s.heap → J.stop i H →
    wpAny (model P w) X.A (pyNext (.ref it)) (fun r s1 => r = none ∧ Inv X pins σ H s1) E s
  self : ∀ (A : Around) (i : Nat) (s : Shared) (Q : Value → Shared → Prop) (E : Value → Shared → Prop), tn i s.heap → Q (.ref it) s → wpAny (model P w) A (pyIter (.ref it)) Q E s
abbrev TI := St → Hp → (It → Hp → Prop) → Prop
def PIE (X : Cx) (pins : List (Addr × Obj)) (σ : St) (tg : Expr) (R : It → Hp → Prop) (itv : Value) (s2 : Shared) : Prop :=
  ∃ (it : Addr) (fp : List Addr) (tn : Nat → Heap → Prop) (J : It) (H' : Hp), itv = .ref it ∧ Inv X pins σ H' s2 ∧ Turn X.prog X.w X.K tg J fp it tn ∧ tn 0 s2.heap ∧ (∀ b ∈ fp, FpOk X pins H' b) ∧ R J H'
def PI (X : Cx) (tg iter : Expr) (wi : TI) : Prop :=
  ∀ (pins : List (Addr × Obj)) (s : Shared) (σ : St) (H : Hp) (R : It → Hp → Prop), Inv X pins σ H s → wi σ H R →
    wpAny (model X.prog X.w) X.A (eval iter X.env) (fun v s1 => wpAny (model X.prog X.w) X.A (pyIter v) (PIE X pins σ tg R) X.xe s1) X.xe s

theorem go_of {M : Model} {A : Around} {E : Value → Shared → Prop} {s : Shared} {tg : Expr} {it : Addr} {u : Value} {o : Obj} {n : String} {vs : Array Value} {Q : Unit → Shared → Prop} (ho : s.heap.get? it = some o) (hc : o.cls = .type n) (hd : o.data = .fields vs)
    (hn : ["enumerate", "zip", "dict_itemiterator", "dict_reverseitemiterator", "odict_iterator", "itertools.zip_longest", "itertools.pairwise"].contains n = false) (hQ : Q () s) : wpAny M A (letOwnedTupleGo tg (.ref it) u) Q E s := by
  unfold letOwnedTupleGo
  cases tg <;> first
    | exact wpAny_pure hQ
    | (cases u <;> first
        | exact wpAny_pure hQ
        | (refine wpAny_bind (wpAny_load ho ?_)
           rw [hc, hd]
           show wpAny M A (if (["enumerate", "zip", "dict_itemiterator", "dict_reverseitemiterator", "odict_iterator", "itertools.zip_longest", "itertools.pairwise"].contains n && vs[0]? == some (rawInt _)) = true then _ else _) Q E s
           rw [if_neg (by intro h; rw [hn, Bool.false_and] at h; cases h)]
           exact wpAny_pure hQ))

def Itl (K : PySem.W.Frag) (a : Addr) : It :=
  ⟨fun i H => ∃ xs x, SqL K H a xs ∧ xs[i]? = some x, fun i H x H' => H' = H ∧ ∀ xs, SqL K H a xs → xs[i]? = some x, fun i H => ∃ xs, SqL K H a xs ∧ xs.length ≤ i⟩
def Itr (lo : Int) (n : Nat) : It := ⟨fun i _ => i < n, fun i H x H' => H' = H ∧ x = .int (lo + i), fun i _ => n ≤ i⟩
theorem turn_list {P : Program} {w : World} {K : PySem.W.Frag} {tg : Expr} (a it : Addr) : Turn P w K tg (Itl K a) [it] it (fun i h => h.IsListIter it a i) where
  mem := by simp
  obj := fun i h st b hb => by
    have e : b = it := by simpa using hb
    subst e
    obtain ⟨o, e, c, d⟩ := st
    exact ⟨o, e, fun v z => by rw [d] at z; cases z⟩
  keep := fun i h h' st k => st.at fun o e => k it (by simp) o e
  item := by
    intro X hP hw hK hc i pins s σ H E I hf st hg
    subst hP hw hK
    obtain ⟨xs, x, hq, hx⟩ := hg
    obtain ⟨its, rv, p, hz⟩ := I.list hq
    obtain ⟨u, hu, ru⟩ := rv.get hx
    obtain ⟨f0, f1, f2, f3, f4, f5⟩ := hf it (by simp)
    refine wpAny_pyNext_list_item st p.isList (x := u) (by simpa using hu) fun h' st' sb => ?_
    have I1 : Inv X pins σ H { s with heap := h' } := I.turned (t' := s.toks) (fun b o hb e => (sb.2 b hb).trans e) f0 f1 f3 f4 f5
    obtain ⟨o, e, c, d⟩ := id st'
    exact ⟨u, rfl, go_of (s := { s with heap := h' }) e c d (by decide) ⟨x, H, I1, ru, ⟨rfl, fun ys hy => by rw [I.list_inj hy hq]; exact hx⟩, st', fun b hb => (hf b hb).1⟩⟩
  done := by
    intro X hP hw hK hc i pins s σ H E I hf st hg
    subst hP hw hK
    obtain ⟨xs, hq, hx⟩ := hg
    obtain ⟨its, rv, p, hz⟩ := I.list hq
    obtain ⟨f0, f1, f2, f3, f4, f5⟩ := hf it (by simp)
    have hl := rv.length
    exact wpAny_pyNext_list_end (I.ok.hd hc) st p.isList (by simp; omega) fun h' eb => ⟨rfl, I.turned (t' := s.toks) (fun b o hb e => eb b o hb e) f0 f1 f3 f4 f5⟩
  self := fun _ _ _ _ _ st h => wpAny_pyIter_listiter st h
theorem turn_range {P : Program} {w : World} {K : PySem.W.Frag} {tg : Expr} (it : Addr) (lo : Int) (n : Nat) : Turn P w K tg (Itr lo n) [it] it (fun i h => IsRangeIter h it (lo + (i : Nat) * 1) ((n : Int) - (i : Nat)) 1) where
  mem := by simp
  obj := fun i h st b hb => by
    have e : b = it := by simpa using hb
    subst e
    exact ⟨_, st, fun v z => by
      have z' : Data.fields _ = Data.cell v := z
      cases z'⟩
  keep := fun i h h' st k => k it (by simp) _ st
  item := by
    intro X hP hw hK hc i pins s σ H E I hf st hg
    subst hP hw hK
    obtain ⟨f0, f1, f2, f3, f4, f5⟩ := hf it (by simp)
    have W := Walks.range (prog := X.prog) (w := X.w) (I.ok.hd hc) it lo 1 n
    refine W.item i s _ _ hg st fun v h' tk hv st' kk => ?_
    obtain ⟨t, rfl⟩ := hv
    have I1 : Inv X pins σ H { s with heap := h', toks := tk } := I.turned (fun b o hb e => kk b o (by simpa using hb) e) f0 f1 f3 f4 f5
    refine ⟨_, rfl, go_of (s := { s with heap := h', toks := tk }) (n := "range_iterator") st' rfl rfl (by decide) ⟨.int (lo + i), H, I1, ⟨t, ?_⟩, ⟨rfl, rfl⟩, st', fun b hb => (hf b hb).1⟩⟩
    rw [Int.mul_one]
  done := by
    intro X hP hw hK hc i pins s σ H E I hf st hg
    subst hP hw hK
    obtain ⟨f0, f1, f2, f3, f4, f5⟩ := hf it (by simp)
    exact wpAny_pyNext_range_end (I.ok.hd hc) st (by have : n ≤ i := hg; omega) fun h' eb => ⟨rfl, I.turned (t' := s.toks) (fun b o hb e => eb b o hb e) f0 f1 f3 f4 f5⟩
  self := fun _ _ _ _ _ st h => wpAny_pyIter_rangeiter st h
end L2

namespace L2
open PySem PySem.Spec PyProof.Rows
section
variable {X : Cx} {tg : Expr}
def iList (K : PySem.W.Frag) (tl : TE) : TI := fun σ H R => tl σ H fun x H1 => ∃ a, x = .ref a ∧ (∃ xs, SqL K H1 a xs) ∧ R (Itl K a) H1
theorem pi_list {l : Expr} {tl : TE} (hl : PE X l tl) : PI X tg l (iList X.K tl) := by
  with_unfolding_all
    intro pins s σ H R I h
    refine thn (hl pins s σ H _ I h) fun v s1 ⟨x, H1, I1, r1, q1⟩ => ?_
    obtain ⟨a, e, ⟨xs, hq⟩, q⟩ := q1
    subst e
    cases r1
    obtain ⟨its, rv, p, hz⟩ := I1.list hq
    refine wpAny_pyIter_list p.isList ?_
    refine ⟨s1.heap.objs.size, [s1.heap.objs.size], _, _, H1, rfl, I1.kept (t' := s1.toks) fun b o e => Heap.get?_push_of_some _ e, turn_list a _, ⟨_, Heap.get?_push_size _ rfl, rfl, rfl⟩, fun b hb => ?_, q⟩
    have e : b = s1.heap.objs.size := by simpa using hb
    subst e
    exact I1.fpOk (Nat.le_refl _) (I1.hok.fresh (Nat.le_refl _))
theorem range_it {pins : List (Addr × Obj)} {σ : St} {H : Hp} {s : Shared} {R : It → Hp → Prop} {E : Value → Shared → Prop} {lo hi : Int} {t u v : Tok} {tk : Nat} (I : Inv X pins σ H s) (h1 : -(2 ^ 62) ≤ lo) (h2 : lo < 2 ^ 62) (h3 : -(2 ^ 62) ≤ hi) (h4 : hi < 2 ^ 62)
    (q : R (Itr lo (hi - lo).toNat) H) : wpAny (model X.prog X.w) X.A (pyIter (.ref s.heap.objs.size)) (PIE X pins σ tg R) E { s with heap := s.heap.push { cls := .type "range", data := .fields #[.int lo t, .int hi u, .int 1 v] }, toks := tk } := by
  refine wpAny_pyIter_range (IsRange.new ..) (small_one h1 h2 h3 h4) ?_
  have I1 : Inv X pins σ H { s with heap := s.heap.push { cls := .type "range", data := .fields #[.int lo t, .int hi u, .int 1 v] }, toks := tk } := I.kept fun b o e => Heap.get?_push_of_some _ e
  refine ⟨(s.heap.push { cls := .type "range", data := .fields #[.int lo t, .int hi u, .int 1 v] }).objs.size, [(s.heap.push { cls := .type "range", data := .fields #[.int lo t, .int hi u, .int 1 v] }).objs.size], _, _, H, rfl,
    I1.kept (t' := tk) fun b o e => Heap.get?_push_of_some _ e, turn_range _ lo (hi - lo).toNat, ?_, fun b hb => ?_, q⟩
  · have e1 : lo + ((0 : Nat) : Int) * 1 = lo := by simp
    have e2 : (((hi - lo).toNat : Nat) : Int) - ((0 : Nat) : Int) = Builtin.Range.rangeSize lo hi 1 := by rw [rangeSize_one]; split <;> omega
    show IsRangeIter _ _ (lo + ((0 : Nat) : Int) * 1) ((((hi - lo).toNat : Nat) : Int) - ((0 : Nat) : Int)) 1
    rw [e1, e2]
    exact Heap.get?_push_size _ rfl
  · have e : b = (s.heap.push { cls := .type "range", data := .fields #[.int lo t, .int hi u, .int 1 v] }).objs.size := by simpa using hb
    subst e
    exact I1.fpOk (Nat.le_refl _) (I1.hok.fresh (Nat.le_refl _))
def iRng1 (ta : TA) : TI := fun σ H R => ta σ H fun vs H1 => ∃ j : Int, vs = [.int j] ∧ -(2 ^ 62) ≤ j ∧ j < 2 ^ 62 ∧ R (Itr 0 j.toNat) H1
def iRng2 (ta : TA) : TI := fun σ H R => ta σ H fun vs H1 => ∃ i j : Int, vs = [.int i, .int j] ∧ (-(2 ^ 62) ≤ i ∧ i < 2 ^ 62 ∧ -(2 ^ 62) ≤ j ∧ j < 2 ^ 62) ∧ R (Itr i (j - i).toNat) H1
theorem pi_range1 {a : Expr} {ta : TA} {p pos : Pos} (hg : Gl X "range") (hm : X.mg "range" = none) (ha : PA X [a] ta) (hs : starEach [a] X.env = [(false, eval a X.env)] := by rfl) : PI X tg (.Call (.Name "range" p) [a] [] pos) (iRng1 ta) := by
  with_unfolding_all
    intro pins s σ H R I h
    refine Call_ (ld_blt I hg hm boot_range (PyProof.Rows.callWith_type1 (thn (ha pos pins s σ H _ I h) fun us s1 ⟨vs, H1, I1, r1, q1⟩ => ?_) hs rfl))
    obtain ⟨j, e, q1, q2, q⟩ := q1
    subst e
    cases r1 with
    | cons r rr =>
      cases rr
      obtain ⟨t, rfl⟩ := r
      exact call_range_1 (range_it I1 (by omega) (by omega) q1 q2 (by simpa using q))
theorem pi_range2 {a b : Expr} {ta : TA} {p pos : Pos} (hg : Gl X "range") (hm : X.mg "range" = none) (ha : PA X [a, b] ta) (hs : starEach [a, b] X.env = [(false, eval a X.env), (false, eval b X.env)] := by rfl) (hs2 : starEach [b] X.env = [(false, eval b X.env)] := by rfl) :
    PI X tg (.Call (.Name "range" p) [a, b] [] pos) (iRng2 ta) := by
  with_unfolding_all
    intro pins s σ H R I h
    refine Call_ (ld_blt I hg hm boot_range (PyProof.Rows.callWith_type1 (thn (ha pos pins s σ H _ I h) fun us s1 ⟨vs, H1, I1, r1, q1⟩ => ?_) (by rw [hs, hs2]) (by rw [hs2]; rfl)))
    obtain ⟨i, j, e, ⟨q1, q2, q3, q4⟩, q⟩ := q1
    subst e
    cases r1 with
    | cons r rr =>
      cases rr with
      | cons r' rr =>
        cases rr
        obtain ⟨t, rfl⟩ := r
        obtain ⟨t', rfl⟩ := r'
        exact call_range_2 (range_it I1 q1 q2 q3 q4 q)

/-! ### for -/
def tFor (wi : TI) (g : TG) (tb : TS) : TS := fun D σ H => wi σ H fun J H1 => ∃ W : Nat → Nat → St → Hp → Prop, (∃ m, W 0 m σ H1) ∧ ∀ i m σ H, W i m σ H →
  (J.stop i H ∧ D.nx σ H) ∨ (J.go i H ∧ ∃ N : St → Hp → Prop, (∀ σ' H', N σ' H' → ∃ m', m' < m ∧ W (i + 1) m' σ' H') ∧ ∀ x H', J.yld i H x H' → g x σ H' fun σ2 H2 => tb { D with nx := N, ct := N, bk := D.nx } σ2 H2)
def pinsAt (fp : List Addr) (h : Heap) : List (Addr × Obj) := fp.filterMap fun b => (h.get? b).map fun o => (b, o)
theorem mem_pinsAt {fp : List Addr} {h : Heap} {b : Addr} {o : Obj} (hb : b ∈ fp) (e : h.get? b = some o) : (b, o) ∈ pinsAt fp h := List.mem_filterMap.mpr ⟨b, hb, by rw [e]; rfl⟩
theorem of_pinsAt {fp : List Addr} {h : Heap} {p : Addr × Obj} (hp : p ∈ pinsAt fp h) : p.1 ∈ fp ∧ h.get? p.1 = some p.2 := by
  obtain ⟨b, hb, e⟩ := List.mem_filterMap.mp hp
  cases q : h.get? b with
  | none => rw [q] at e; cases e
  | some o =>
    rw [q] at e
    have e' : (b, o) = p := Option.some.inj e
    subst e'
    exact ⟨hb, q⟩
theorem Inv.pinned {pins : List (Addr × Obj)} {σ : St} {H : Hp} {s : Shared} {fp : List Addr} (I : Inv X pins σ H s) (hf : ∀ b ∈ fp, FpOk X pins H b) (ho : ∀ b ∈ fp, ∃ o, s.heap.get? b = some o ∧ ∀ v, o.data ≠ .cell v) : Inv X (pins ++ pinsAt fp s.heap) σ H s :=
  I.pins_of fun p hp => (List.mem_append.mp hp).elim (fun z => I.pin p (List.mem_append_right _ z)) fun z => by
    obtain ⟨hb, e⟩ := of_pinsAt z
    obtain ⟨f0, f1, f2, _⟩ := hf p.1 hb
    obtain ⟨o, e', d⟩ := ho p.1 hb
    rw [e] at e'; cases e'
    exact ⟨e, f0, f1, f2, d⟩
theorem Inv.unpinned {pins pl : List (Addr × Obj)} {σ : St} {H : Hp} {s : Shared} (I : Inv X (pins ++ pl) σ H s) : Inv X pins σ H s := I.pins_of fun p hp => I.pin p (List.mem_append_right _ (List.mem_append_left _ hp))
theorem ps_for {iter : Expr} {body : List Stmt} {wi : TI} {g : TG} {tb : TS} {pos : Pos} (hp : PassesOwn (model X.prog X.w) X.A X.env X.xe) (hc : X.calm = true) (hi : PI X tg iter wi) (hg : PG X tg g) (hb : PSs X body tb)
    (hs : ∀ x, foldedSetIterable iter X.env x = pure x := by intro _; rfl) : PS X (.For tg iter body [] pos) (tFor wi g tb) := by
  with_unfolding_all
    intro pins s σ H D I h
    refine wpAny_For (thn (hi pins s σ H _ I h) fun v s1 h1 => thn h1 fun itv s2 h2 => ?_) hs
    obtain ⟨it, fp, tn, J, H2, e, I2, T, st2, f2, W, ⟨m0, w0⟩, turn⟩ := h2
    subst e
    -- what stays true of the iterator's objects through the loop
    have stat : ∀ {H' : Hp}, (∀ b ∈ fp, H' b = none) → ∀ b ∈ fp, FpOk X pins H' b := fun hn b hb => ⟨hn b hb, (f2 b hb).2⟩
    refine codeAny_forLoop_any (fun n s' => ∃ i σ' H', Inv X pins σ' H' s' ∧ tn i s'.heap ∧ (∀ b ∈ fp, H' b = none) ∧ W i n σ' H') ?_ m0 ⟨0, σ, H2, I2, st2, fun b hb => (f2 b hb).1, w0⟩
    rintro n s3 ⟨i, σ3, H3, I3, st3, fr3, w3⟩
    rcases turn i n σ3 H3 w3 with ⟨stop, qn⟩ | ⟨go, N, hN, step⟩
    · refine wpAny_passesOwn hp (thn (T.done X rfl rfl rfl hc i pins s3 σ3 H3 X.xe I3 (stat fr3) st3 stop) fun r s4 ⟨hr, I4⟩ => ?_)
      subst hr
      exact wpAny_execs_nil ⟨σ3, H3, I4, qn⟩
    · refine wpAny_passesOwn hp (thn (T.item X rfl rfl rfl hc i pins s3 σ3 H3 X.xe I3 (stat fr3) st3 go) fun r s4 ⟨u, hr, h4⟩ => ?_)
      subst hr
      refine wpAny_passesOwn hp (thn h4 fun _ s5 ⟨x, H5, I5, r5, y5, st5, fr5⟩ => ?_)
      have I5' := I5.pinned (stat fr5) (T.obj _ _ st5)
      refine wpAny_passesOwn hp (thn (hg _ s5 σ3 H5 x u _ I5' r5 (step x H5 y5)) fun _ s6 ⟨σ6, H6, I6, q6⟩ => ?_)
      refine wpAny_passesOwn hp (thn (hb _ s6 σ6 H6 _ I6 q6) fun f s7 q7 => ?_)
      have again : ∀ {σ7 : St} {H7 : Hp}, Inv X (pins ++ pinsAt fp s5.heap) σ7 H7 s7 → N σ7 H7 → ∃ m, m < n ∧ ∃ i σ' H', Inv X pins σ' H' s7 ∧ tn i s7.heap ∧ (∀ b ∈ fp, H' b = none) ∧ W i m σ' H' := fun {σ7 H7} I7 n7 => by
        obtain ⟨m', hm, w7⟩ := hN σ7 H7 n7
        refine ⟨m', hm, i + 1, σ7, H7, I7.unpinned, T.keep _ _ _ st5 fun b hb o e => (I7.pin (b, o) (List.mem_append_right _ (List.mem_append_right _ (mem_pinsAt hb e)))).1, fun b hb => ?_, w7⟩
        obtain ⟨o, e, d⟩ := T.obj _ _ st5 b hb
        exact (I7.pin (b, o) (List.mem_append_right _ (List.mem_append_right _ (mem_pinsAt hb e)))).2.1
      cases f with
      | next => obtain ⟨σ7, H7, I7, n7⟩ := q7; exact again I7 n7
      | cont => obtain ⟨σ7, H7, I7, n7⟩ := q7; exact again I7 n7
      | brk => obtain ⟨σ7, H7, I7, q7⟩ := q7; exact ⟨σ7, H7, I7.unpinned, q7⟩
      | ret v => obtain ⟨x7, σ7, H7, I7, r7, q7⟩ := q7; exact ⟨x7, σ7, H7, I7.unpinned, r7, q7⟩
end

/-! ### the forms one uses -/
theorem for_list {K : PySem.W.Frag} {a : Addr} {xs : List V} {g : TG} {tb : TS} {D : Ends} {σ : St} {H : Hp} (Pv : Nat → St → Hp → Prop) (h0 : Pv 0 σ H) (hl : ∀ i σ H, i ≤ xs.length → Pv i σ H → SqL K H a xs)
    (hs : ∀ i x σ H, xs[i]? = some x → Pv i σ H → g x σ H fun σ2 H2 => tb { D with nx := Pv (i + 1), ct := Pv (i + 1), bk := D.nx } σ2 H2) (hd : ∀ σ H, Pv xs.length σ H → D.nx σ H) :
    ∃ W : Nat → Nat → St → Hp → Prop, (∃ m, W 0 m σ H) ∧ ∀ i m σ H, W i m σ H →
      ((Itl K a).stop i H ∧ D.nx σ H) ∨ ((Itl K a).go i H ∧ ∃ N : St → Hp → Prop, (∀ σ' H', N σ' H' → ∃ m', m' < m ∧ W (i + 1) m' σ' H') ∧ ∀ x H', (Itl K a).yld i H x H' → g x σ H' fun σ2 H2 => tb { D with nx := N, ct := N, bk := D.nx } σ2 H2) := by
  refine ⟨fun i m σ H => m = xs.length - i ∧ i ≤ xs.length ∧ Pv i σ H, ⟨xs.length, by simp, Nat.zero_le _, h0⟩, ?_⟩
  rintro i m σ H ⟨rfl, hi, p⟩
  have q := hl i σ H hi p
  by_cases hlt : i < xs.length
  · refine .inr ⟨⟨xs, xs[i], q, by simp [hlt]⟩, Pv (i + 1), fun σ' H' p' => ⟨xs.length - (i + 1), by omega, rfl, hlt, p'⟩, fun x H' y => ?_⟩
    obtain ⟨e, y⟩ := y
    subst e
    exact hs i x σ _ (y xs q) p
  · have e : i = xs.length := by omega
    subst e
    exact .inl ⟨⟨xs, q, Nat.le_refl _⟩, hd σ H p⟩
theorem for_range {lo : Int} {n : Nat} {g : TG} {tb : TS} {D : Ends} {σ : St} {H : Hp} (Pv : Nat → St → Hp → Prop) (h0 : Pv 0 σ H)
    (hs : ∀ i σ H, i < n → Pv i σ H → g (.int (lo + i)) σ H fun σ2 H2 => tb { D with nx := Pv (i + 1), ct := Pv (i + 1), bk := D.nx } σ2 H2) (hd : ∀ σ H, Pv n σ H → D.nx σ H) :
    ∃ W : Nat → Nat → St → Hp → Prop, (∃ m, W 0 m σ H) ∧ ∀ i m σ H, W i m σ H →
      ((Itr lo n).stop i H ∧ D.nx σ H) ∨ ((Itr lo n).go i H ∧ ∃ N : St → Hp → Prop, (∀ σ' H', N σ' H' → ∃ m', m' < m ∧ W (i + 1) m' σ' H') ∧ ∀ x H', (Itr lo n).yld i H x H' → g x σ H' fun σ2 H2 => tb { D with nx := N, ct := N, bk := D.nx } σ2 H2) := by
  refine ⟨fun i m σ H => m = n - i ∧ i ≤ n ∧ Pv i σ H, ⟨n, by simp, Nat.zero_le _, h0⟩, ?_⟩
  rintro i m σ H ⟨rfl, hi, p⟩
  by_cases hlt : i < n
  · refine .inr ⟨hlt, Pv (i + 1), fun σ' H' p' => ⟨n - (i + 1), by omega, rfl, hlt, p'⟩, fun x H' y => ?_⟩
    obtain ⟨e, y⟩ := y
    subst e y
    exact hs i σ _ hlt p
  · have e : i = n := by omega
    subst e
    exact .inl ⟨Nat.le_refl _, hd σ H p⟩
theorem while_by {c : TT} {tb : TS} {D : Ends} {σ : St} {H : Hp} (Pv : St → Hp → Prop) (μ : St → Hp → Nat) (h0 : Pv σ H)
    (hs : ∀ σ H, Pv σ H → c σ H fun b H1 => if b = true then tb { D with nx := fun σ' H' => Pv σ' H' ∧ μ σ' H' < μ σ H, ct := fun σ' H' => Pv σ' H' ∧ μ σ' H' < μ σ H, bk := D.nx } σ H1 else D.nx σ H1)
    (mono : ∀ σ H Q Q', (∀ b H1, Q b H1 → Q' b H1) → c σ H Q → c σ H Q') : tWhile c tb D σ H := by
  refine ⟨fun m σ H => m = μ σ H ∧ Pv σ H, ⟨_, rfl, h0⟩, ?_⟩
  rintro m σ H ⟨rfl, p⟩
  refine mono σ H _ _ (fun b H1 q => ?_) (hs σ H p)
  cases b with
  | true => exact ⟨_, fun σ' H' ⟨p', l⟩ => ⟨_, l, rfl, p'⟩, q⟩
  | false => exact q
end L2

namespace L2
open PySem PySem.Spec PyProof.Rows

abbrev R2 := V → V → Hp → VK → Prop
def OpR (X : Cx) (f : Value → Value → Sem Value) (r : R2) : Prop :=
  ∀ (pins : List (Addr × Obj)) (s : Shared) (σ : St) (H : Hp) (x y : V) (v u : Value) (Q : VK), Inv X pins σ H s → RelV x v → RelV y u → r x y H Q →
    wpAny (model X.prog X.w) X.A (f v u) (EP X pins σ Q) X.xe s
def CallR (X : Cx) (f : Value) (r : List V → Hp → VK → Prop) : Prop :=
  ∀ (pins : List (Addr × Obj)) (s : Shared) (σ : St) (H : Hp) (xs : List V) (us : List Value) (Q : VK), Inv X pins σ H s → Vals xs us → r xs H Q →
    wpAny (model X.prog X.w) X.A (call f us) (EP X pins σ Q) X.xe s
def tOp (r : R2) (ta tb : TE) : TE := fun σ H Q => ta σ H fun x H1 => tb σ H1 fun y H2 => r x y H2 Q
def rI (C : Int → Int → Prop) (g : Int → Int → V) : R2 := fun x y H Q => ∃ i j, x = .int i ∧ y = .int j ∧ C i j ∧ Q (g i j) H
def rI0 (g : Int → Int → V) : R2 := fun x y H Q => ∃ i j, x = .int i ∧ y = .int j ∧ Q (g i j) H
section
variable {X : Cx} {a b c : Expr} {ta tb tc : TE} {pos : Pos}

theorem binT (ha : PE X a ta) (hb : PE X b tb) {pins : List (Addr × Obj)} {s : Shared} {σ : St} {H : Hp} {R : V → V → Hp → Prop} (I : Inv X pins σ H s)
    (h : ta σ H fun x H1 => tb σ H1 fun y H2 => R x y H2) {Q : Value → Shared → Prop} {f : Value → Value → Sem Value}
    (hf : ∀ v u s2 x y H2, Inv X pins σ H2 s2 → RelV x v → RelV y u → R x y H2 → wpAny (model X.prog X.w) X.A (f v u) Q X.xe s2) :
    wpAny (model X.prog X.w) X.A (eval a X.env) (fun v s₁ => wpAny (model X.prog X.w) X.A (eval b X.env) (fun u s₂ => wpAny (model X.prog X.w) X.A (f v u) Q X.xe s₂) X.xe s₁) X.xe s := by
  with_unfolding_all
    refine thn (ha pins s σ H _ I h) fun v s1 ⟨x, H1, I1, r1, q1⟩ => ?_
    refine thn (hb pins s1 σ H1 _ I1 q1) fun u s2 ⟨y, H2, I2, r2, q2⟩ => ?_
    exact hf v u s2 x y H2 I2 r1 r2 q2

theorem pe_op {op : Operator} {r : R2} (ho : OpR X (binaryOp op) r) (ha : PE X a ta) (hb : PE X b tb) : PE X (.BinOp a op b pos) (tOp r ta tb) := by
  with_unfolding_all
    intro pins s σ H Q I h
    exact wpAny_BinOp (binT ha hb I h fun v u s2 x y H2 I2 rx ry q => ho pins s2 σ H2 x y v u Q I2 rx ry q)
/-! ### ints -/
theorem opI {f : Value → Value → Sem Value} {C : Int → Int → Prop} {g : Int → Int → Int}
    (rule : ∀ (i j : Int) (t u : Tok) (s : Shared) (Q : Value → Shared → Prop) (E : Value → Shared → Prop), C i j → Q (.int (g i j) s.toks) { s with toks := s.toks + 1 } → wpAny (model X.prog X.w) X.A (f (.int i t) (.int j u)) Q E s) :
    OpR X f (rI C fun i j => .int (g i j)) := by
  intro pins s σ H x y v u Q I rx ry h
  obtain ⟨i, j, rfl, rfl, hc, q⟩ := h
  obtain ⟨t, rfl⟩ := rx
  obtain ⟨t', rfl⟩ := ry
  exact rule i j t t' s _ _ hc ⟨.int (g i j), H, I.tok _, ⟨_, rfl⟩, q⟩
theorem opI0 {f : Value → Value → Sem Value} {g : Int → Int → Int}
    (rule : ∀ (i j : Int) (t u : Tok) (s : Shared) (Q : Value → Shared → Prop) (E : Value → Shared → Prop), Q (.int (g i j) s.toks) { s with toks := s.toks + 1 } → wpAny (model X.prog X.w) X.A (f (.int i t) (.int j u)) Q E s) :
    OpR X f (rI0 fun i j => .int (g i j)) := by
  intro pins s σ H x y v u Q I rx ry h
  obtain ⟨i, j, rfl, rfl, q⟩ := h
  obtain ⟨t, rfl⟩ := rx
  obtain ⟨t', rfl⟩ := ry
  exact rule i j t t' s _ _ ⟨.int (g i j), H, I.tok _, ⟨_, rfl⟩, q⟩
theorem opB0 {f : Value → Value → Sem Value} {g : Int → Int → Bool}
    (rule : ∀ (i j : Int) (t u : Tok) (s : Shared) (Q : Value → Shared → Prop) (E : Value → Shared → Prop), Q (.bool (g i j)) s → wpAny (model X.prog X.w) X.A (f (.int i t) (.int j u)) Q E s) :
    OpR X f (rI0 fun i j => .bl (g i j)) := by
  intro pins s σ H x y v u Q I rx ry h
  obtain ⟨i, j, rfl, rfl, q⟩ := h
  obtain ⟨t, rfl⟩ := rx
  obtain ⟨t', rfl⟩ := ry
  exact rule i j t t' s _ _ ⟨.bl (g i j), H, I, rfl, q⟩

def CDiv (i j : Int) : Prop := 0 < j ∧ j < 1073741824
def CPow (i j : Int) : Prop := 0 ≤ j ∧ j ≤ 1000000 ∧ i.natAbs < 2 ^ 64
def CMul (i j : Int) : Prop := (-(2 ^ 64) < i ∧ i < 2 ^ 64) ∨ (-(2 ^ 64) < j ∧ j < 2 ^ 64)
theorem CMul.ok {i j : Int} (h : CMul i j) : IntMulOk i j := by
  rcases h with ⟨h1, h2⟩ | ⟨h1, h2⟩
  · exact .of_left (intBits_le_64 h1 h2)
  · exact .of_right (intBits_le_64 h1 h2)
theorem two_pow_nn (k : Nat) : (0 : Int) ≤ 2 ^ k := by
  rw [two_pow_cast]
  exact Int.natCast_nonneg _

theorem op_add : OpR X (binaryOp .Add) (rI0 fun i j => .int (i + j)) := opI0 fun _ _ _ _ _ _ _ q => add_int q
theorem op_sub : OpR X (binaryOp .Sub) (rI0 fun i j => .int (i - j)) := opI0 fun _ _ _ _ _ _ _ q => sub_int q
theorem op_mul : OpR X (binaryOp .Mult) (rI CMul fun i j => .int (i * j)) := opI fun _ _ _ _ _ _ _ hc q => mul_int q hc.ok
theorem op_fdiv : OpR X (binaryOp .FloorDiv) (rI CDiv fun i j => .int (i / j)) := opI fun i j _ _ _ _ _ hc q => by
  have h1 : (0 : Int) < j := hc.1
  have h2 : j < 1073741824 := hc.2
  exact floordiv_int (by omega) (by rw [Int.fdiv_eq_ediv_of_nonneg i (by omega)]; exact q) (.inl (PyProof.noPylong_small (by omega)))
theorem op_mod : OpR X (binaryOp .Mod) (rI (fun _ j => 0 < j) fun i j => .int (i % j)) := opI fun i j _ _ _ _ _ hc q => by
  have h1 : (0 : Int) < j := hc
  exact mod_int' (by omega) (by rw [Int.fmod_eq_emod_of_nonneg i (by omega)]; exact q)
theorem op_pow : OpR X (binaryOp .Pow) (rI CPow fun i j => .int (i ^ j.toNat)) := opI fun _ _ _ _ _ _ _ hc q => pow_int_small hc.1 hc.2.1 hc.2.2 q
theorem op_shr : OpR X (binaryOp .RShift) (rI (fun _ j => 0 ≤ j) fun i j => .int (i / 2 ^ j.toNat)) := opI fun i j _ _ _ _ _ hc q =>
  rshift_int hc (by rw [Int.fdiv_eq_ediv_of_nonneg i (two_pow_nn _)]; exact q)
/-! ### bools among ints: n += (a < b) -/
end

/-! ### comparisons -/
def scal : V → V → Bool
  | .non, .non => true | .non, .int _ => true | .int _, .non => true | .non, .bl _ => true | .bl _, .non => true | .non, .str _ => true | .str _, .non => true
  | .int _, .int _ => true | .bl _, .bl _ => true | .str _, .str _ => true | .byt _, .byt _ => true
  | .int _, .str _ => true | .str _, .int _ => true | .bl _, .str _ => true | .str _, .bl _ => true
  | _, _ => false
def rEq : R2 := fun x y H Q => scal x y = true ∧ Q (.bl (decide (x = y))) H
def rNe : R2 := fun x y H Q => scal x y = true ∧ Q (.bl (!decide (x = y))) H

theorem dec_int {i j : Int} : decide (V.int i = V.int j) = (i == j) := by
  rw [Bool.eq_iff_iff]
  simp
theorem dec_bl {i j : Bool} : decide (V.bl i = V.bl j) = (i == j) := by
  rw [Bool.eq_iff_iff]
  simp
theorem dec_str {i j : Str} : decide (V.str i = V.str j) = (i == j) := by
  rw [Bool.eq_iff_iff]
  simp
theorem dec_byt {i j : Array UInt8} : decide (V.byt i = V.byt j) = (i.toList == j.toList) := by
  rw [Bool.eq_iff_iff]
  cases i
  cases j
  simp

section
variable {X : Cx} {a b c : Expr} {ta tb tc : TE} {pos : Pos}
theorem fin_bl {pins : List (Addr × Obj)} {σ : St} {H : Hp} {s : Shared} {Q : VK} {k k' : Bool} (I : Inv X pins σ H s) (q : Q (.bl k) H) (e : k = k') : EP X pins σ Q (.bool k') s := by
  subst e
  exact ⟨.bl k, H, I, rfl, q⟩
theorem op_eq : OpR X (compareOp .Eq) rEq := by
  intro pins s σ H x y v u Q I rx ry h
  obtain ⟨hs, q⟩ := h
  cases x with
  | non =>
    cases rx
    cases y with
    | non => cases ry; exact PySem.EqNone.eq_none_none (fin_bl I q (by simp))
    | bl j => cases ry; exact PySem.EqNone.eq_none_bool (fin_bl I q (by simp))
    | int j => obtain ⟨t', rfl⟩ := ry; exact PySem.EqNone.eq_none_int (fin_bl I q (by simp))
    | str j => obtain ⟨t', rfl⟩ := ry; exact PySem.EqNone.eq_none_str (fin_bl I q (by simp))
    | _ => exact absurd (show false = true from hs) Bool.false_ne_true
  | bl i =>
    cases rx
    cases y with
    | non => cases ry; exact PySem.EqNone.eq_bool_none (fin_bl I q (by simp))
    | bl j => cases ry; exact eq_bool (fin_bl I q dec_bl)
    | str j => obtain ⟨t', rfl⟩ := ry; exact PySem.EqMixed.eq_bool_str (fin_bl I q (by simp))
    | _ => exact absurd (show false = true from hs) Bool.false_ne_true
  | int i =>
    obtain ⟨t, rfl⟩ := rx
    cases y with
    | non => cases ry; exact PySem.EqNone.eq_int_none (fin_bl I q (by simp))
    | int j => obtain ⟨t', rfl⟩ := ry; exact eq_int (fin_bl I q dec_int)
    | str j => obtain ⟨t', rfl⟩ := ry; exact PySem.EqMixed.eq_int_str (fin_bl I q (by simp))
    | _ => exact absurd (show false = true from hs) Bool.false_ne_true
  | str i =>
    obtain ⟨t, rfl⟩ := rx
    cases y with
    | non => cases ry; exact PySem.EqNone.eq_str_none (fin_bl I q (by simp))
    | bl j => cases ry; exact PySem.EqMixed.eq_str_bool (fin_bl I q (by simp))
    | int j => obtain ⟨t', rfl⟩ := ry; exact PySem.EqMixed.eq_str_int (fin_bl I q (by simp))
    | str j => obtain ⟨t', rfl⟩ := ry; exact eq_str (fin_bl I q dec_str)
    | _ => exact absurd (show false = true from hs) Bool.false_ne_true
  | byt i =>
    obtain ⟨t, rfl⟩ := rx
    cases y with
    | byt j => obtain ⟨t', rfl⟩ := ry; exact PySem.W.eq_bytes (fin_bl I q dec_byt)
    | _ => exact absurd (show false = true from hs) Bool.false_ne_true
  | _ => cases y <;> exact absurd (show false = true from hs) Bool.false_ne_true
theorem op_ne : OpR X (compareOp .NotEq) rNe := by
  intro pins s σ H x y v u Q I rx ry h
  obtain ⟨hs, q⟩ := h
  cases x with
  | non =>
    cases rx
    cases y with
    | non => cases ry; exact PySem.EqNone.ne_none_none (fin_bl I q (by simp))
    | bl j => cases ry; exact PySem.EqNone.ne_none_bool (fin_bl I q (by simp))
    | int j => obtain ⟨t', rfl⟩ := ry; exact PySem.EqNone.ne_none_int (fin_bl I q (by simp))
    | str j => obtain ⟨t', rfl⟩ := ry; exact PySem.EqNone.ne_none_str (fin_bl I q (by simp))
    | _ => exact absurd (show false = true from hs) Bool.false_ne_true
  | bl i =>
    cases rx
    cases y with
    | non => cases ry; exact PySem.EqNone.ne_bool_none (fin_bl I q (by simp))
    | bl j => cases ry; exact ne_bool (fin_bl I q (congrArg not dec_bl))
    | str j => obtain ⟨t', rfl⟩ := ry; exact PySem.EqMixed.ne_bool_str (fin_bl I q (by simp))
    | _ => exact absurd (show false = true from hs) Bool.false_ne_true
  | int i =>
    obtain ⟨t, rfl⟩ := rx
    cases y with
    | non => cases ry; exact PySem.EqNone.ne_int_none (fin_bl I q (by simp))
    | int j => obtain ⟨t', rfl⟩ := ry; exact ne_int (fin_bl I q (congrArg not dec_int))
    | str j => obtain ⟨t', rfl⟩ := ry; exact PySem.EqMixed.ne_int_str (fin_bl I q (by simp))
    | _ => exact absurd (show false = true from hs) Bool.false_ne_true
  | str i =>
    obtain ⟨t, rfl⟩ := rx
    cases y with
    | non => cases ry; exact PySem.EqNone.ne_str_none (fin_bl I q (by simp))
    | bl j => cases ry; exact PySem.EqMixed.ne_str_bool (fin_bl I q (by simp))
    | int j => obtain ⟨t', rfl⟩ := ry; exact PySem.EqMixed.ne_str_int (fin_bl I q (by simp))
    | str j => obtain ⟨t', rfl⟩ := ry; exact ne_str (fin_bl I q (congrArg not dec_str))
    | _ => exact absurd (show false = true from hs) Bool.false_ne_true
  | byt i =>
    obtain ⟨t, rfl⟩ := rx
    cases y with
    | byt j => obtain ⟨t', rfl⟩ := ry; exact PySem.W.ne_bytes (fin_bl I q (congrArg not dec_byt))
    | _ => exact absurd (show false = true from hs) Bool.false_ne_true
  | _ => cases y <;> exact absurd (show false = true from hs) Bool.false_ne_true

theorem op_lt : OpR X (compareOp .Lt) (rI0 fun i j => .bl (decide (i < j))) := opB0 fun _ _ _ _ _ _ _ q => lt_int q
theorem op_le : OpR X (compareOp .LtE) (rI0 fun i j => .bl (decide (i ≤ j))) := opB0 fun _ _ _ _ _ _ _ q => le_int q
theorem op_gt : OpR X (compareOp .Gt) (rI0 fun i j => .bl (decide (j < i))) := opB0 fun _ _ _ _ _ _ _ q => gt_int q
theorem op_ge : OpR X (compareOp .GtE) (rI0 fun i j => .bl (decide (j ≤ i))) := opB0 fun _ _ _ _ _ _ _ q => ge_int q
theorem op_notN : OpR X (compareOp .IsNot) (fun x y H Q => y = .non ∧ Q (.bl (!decide (x = .non))) H) := by
  intro pins s σ H x y v u Q I rx ry h
  obtain ⟨rfl, q⟩ := h
  cases ry
  refine isnot_none_gen (fin_bl I q ?_)
  cases x <;> first
    | (cases rx; rfl)
    | (obtain ⟨t, rfl⟩ := rx; rfl)

theorem nomark (b : Expr) {op : CmpOp} (h : op ≠ .In := by decide) (h2 : op ≠ .NotIn := by decide) : behindInMarks op b = false := by
  have e1 : (op == CmpOp.In) = false := by cases op <;> first | rfl | exact absurd rfl h
  have e2 : (op == CmpOp.NotIn) = false := by cases op <;> first | rfl | exact absurd rfl h2
  cases b <;> simp [behindInMarks, e1, e2]
theorem pe_cmpR {op : CmpOp} {r : R2} (ho : OpR X (compareOp op) r) (ha : PE X a ta) (hb : PE X b tb) (hm : behindInMarks op b = false) : PE X (.Compare a [op] [b] pos) (tOp r ta tb) := by
  with_unfolding_all
    intro pins s σ H Q I h
    exact wpAny_Compare1 (binT ha hb I h fun v u s2 x y H2 I2 rx ry q => ho pins s2 σ H2 x y v u Q I2 rx ry q) hm
def tTest (t : TE) : TT := fun σ H Q => t σ H fun x H' => ∃ k, x = .bl k ∧ Q k H'
theorem pt_cmpR {op : CmpOp} {r : R2} (ho : OpR X (compareOp op) r) (ha : PE X a ta) (hb : PE X b tb) (hm : behindInMarks op b = false) : PT X (.Compare a [op] [b] pos) (tTest (tOp r ta tb)) := by
  with_unfolding_all
    intro pins s σ H Q I h
    refine wpAny_isTrue_Compare1 (thn (ha pins s σ H _ I h) fun v s1 ⟨x, H1, I1, r1, q1⟩ => thn (hb pins s1 σ H1 _ I1 q1) fun u s2 ⟨y, H2, I2, r2, q2⟩ =>
      thn (ho pins s2 σ H2 x y v u _ I2 r1 r2 q2) fun c s3 ⟨z, H3, I3, r3, k, e, q3⟩ => ?_) hm
    subst e
    cases r3
    exact wpAny_truthy_bool ⟨H3, I3, q3⟩
def tChain (r r' : R2) (ta tb tc : TE) : TE := fun σ H Q => ta σ H fun x H1 => tb σ H1 fun y H2 => r x y H2 fun z H3 => ∃ k, z = .bl k ∧
  (if k = true then tc σ H3 fun w' H4 => r' y w' H4 Q else Q (.bl false) H3)
theorem pe_chain {op op' : CmpOp} {r r' : R2} (ho : OpR X (compareOp op) r) (ho' : OpR X (compareOp op') r') (ha : PE X a ta) (hb : PE X b tb) (hc : PE X c tc)
    (hm : lastMarks [op, op'] [b, c] = false := by with_unfolding_all rfl) : PE X (.Compare a [op, op'] [b, c] pos) (tChain r r' ta tb tc) := by
  with_unfolding_all
    intro pins s σ H Q I h
    refine Compare_chain (thn (ha pins s σ H _ I h) fun v s1 ⟨x, H1, I1, r1, q1⟩ => chain_link (thn (hb pins s1 σ H1 _ I1 q1) fun u s2 ⟨y, H2, I2, r2, q2⟩ =>
      thn (ho pins s2 σ H2 x y v u _ I2 r1 r2 q2) fun d s3 ⟨z, H3, I3, r3, k, e, q3⟩ => ?_)) hm
    subst e
    cases r3
    refine wpAny_truthy_bool ?_
    cases k with
    | false => exact ite_ff ⟨.bl false, H3, I3, rfl, q3⟩
    | true => exact ite_tt (chain_last (thn (hc pins s3 σ H3 _ I3 q3) fun w' s4 ⟨z', H4, I4, r4, q4⟩ => ho' pins s4 σ H4 y z' u w' Q I4 r2 r4 q4))
theorem pt_chain {op op' : CmpOp} {r r' : R2} (ho : OpR X (compareOp op) r) (ho' : OpR X (compareOp op') r') (ha : PE X a ta) (hb : PE X b tb) (hc : PE X c tc)
    (hm : lastMarks [op, op'] [b, c] = false := by with_unfolding_all rfl) : PT X (.Compare a [op, op'] [b, c] pos) (tTest (tChain r r' ta tb tc)) := by
  with_unfolding_all
    intro pins s σ H Q I h
    refine isTrue_chain (thn (ha pins s σ H _ I h) fun v s1 ⟨x, H1, I1, r1, q1⟩ => test_link (thn (hb pins s1 σ H1 _ I1 q1) fun u s2 ⟨y, H2, I2, r2, q2⟩ =>
      thn (ho pins s2 σ H2 x y v u _ I2 r1 r2 q2) fun d s3 ⟨z, H3, I3, r3, k, e, q3⟩ => ?_)) hm
    subst e
    cases r3
    refine wpAny_truthy_bool ?_
    cases k with
    | false =>
      obtain ⟨k', e', q'⟩ := q3
      cases e'
      exact ite_ff ⟨H3, I3, q'⟩
    | true =>
      refine ite_tt (test_last (thn (hc pins s3 σ H3 _ I3 q3) fun w' s4 ⟨z', H4, I4, r4, q4⟩ => thn (ho' pins s4 σ H4 y z' u w' _ I4 r2 r4 q4) fun d' s5 ⟨z2, H5, I5, r5, k2, e2, q5⟩ => ?_))
      subst e2
      cases r5
      exact wpAny_truthy_bool ⟨H5, I5, q5⟩

/-! ### truth -/
theorem line63 : (sizeLine : Nat) < 2 ^ 63 := by rw [sizeLine_eq]; decide
/-! ### strs and bytes -/
/-! ### scalar builtins, by CallR -/
theorem vals1 {x : V} {us : List Value} (r : Vals [x] us) : ∃ u, us = [u] ∧ RelV x u := by
  cases r with
  | cons r1 r2 => cases r2; exact ⟨_, rfl, r1⟩
theorem vals2 {x y : V} {us : List Value} (r : Vals [x, y] us) : ∃ u w', us = [u, w'] ∧ RelV x u ∧ RelV y w' := by
  cases r with
  | cons r1 r2 =>
    cases r2 with
    | cons r3 r4 => cases r4; exact ⟨_, _, rfl, r1, r3⟩
theorem call_abs : CallR X (.builtin "abs") (fun xs H Q => ∃ i, xs = [.int i] ∧ Q (.int (if i < 0 then -i else i)) H) := by
  intro pins s σ H xs us Q I r h
  obtain ⟨i, rfl, q⟩ := h
  obtain ⟨u, rfl, t, rfl⟩ := vals1 r
  exact call_abs_int fun u tk => ⟨.int (if i < 0 then -i else i), H, I.tok _, ⟨_, rfl⟩, q⟩
end
end L2

namespace L2
open PySem PySem.Spec PyProof.Rows

/-! ### an instance, its attributes a map -/
structure ObjM (h : Heap) (x dx C : Addr) (mA : Str → Option Value) : Prop where
  obj : h.get? x = some (PySem.W.instObj C dx)
  ns : h.Ns1 dx mA
  ne : dx ≠ x

theorem lookIn_ns {h : Heap} {dx : Addr} {mA : Str → Option Value} (n : h.Ns1 dx mA) : ∃ od, h.get? dx = some od ∧ ∀ name, PySem.W.lookIn name od = some (mA name) := by
  obtain ⟨o, es, ep, ho, hd, hk, _, hm⟩ := n
  refine ⟨o, ho, fun name => ?_⟩
  have e := hm name
  unfold nsFind findBy at e
  rw [← Array.find?_toList] at e
  unfold PySem.W.lookIn
  rw [hd]
  dsimp only
  split
  · rename_i y q
    rw [q] at e
    exact congrArg some e
  · rename_i q
    rw [q] at e
    have a : es.toList.any (·.refKey) = false := by
      rw [List.any_eq_false]
      intro y hy
      obtain ⟨z, t, hkey⟩ := hk y (Array.mem_toList_iff.mp hy)
      simp [DictEntry.refKey, hkey]
    have a' : ¬ es.toList.any (·.refKey) = true := by rw [a]; exact Bool.false_ne_true
    rw [if_neg a']
    exact congrArg some e

theorem ObjM.look {h : Heap} {x dx C : Addr} {mA : Str → Option Value} (I : ObjM h x dx C mA) : ∃ od, PySem.W.InstAt h x (PySem.W.instObj C dx) C (some od) ∧ ∀ name, PySem.W.lookIn name od = some (mA name) :=
  let ⟨od, ho, hl⟩ := lookIn_ns I.ns
  ⟨od, ⟨I.obj, rfl, rfl, ho⟩, hl⟩

section
variable {prog : Program} {w : World} {A : Around} {E : Value → Shared → Prop} {s : Shared} {K : PySem.W.Frag} {x dx C f : Addr} {mA : Str → Option Value} {name : Str} {v : Value}

theorem get_map {expr : Bool} {Q : Value → Shared → Prop} (X : K.In s.heap) (I : ObjM s.heap x dx C mA) (hg : PySem.W.plainGet K C name = true) (hh : PySem.W.hasDictIn K C = true)
    (ha : PySem.W.findIn K (.ref C) name = some none) (hv : mA name = some v) (hv' : PySem.W.handedIn v = true) (h : Q v { s with toks := s.toks + 1 }) :
    wpAny (model prog w) A (getAttr (.ref x) name expr) Q E s := by
  obtain ⟨od, J, hl⟩ := I.look
  exact PySem.W.get_value X J (PySem.W.plainGet_of hg).1 (PySem.W.findObj_own hh ha rfl (by rw [hl, hv])) hv' h

theorem get_meth {pl : Sem Bool} {Q : Value × List Value → Shared → Prop} (X : K.In s.heap) (I : ObjM s.heap x dx C mA) (hg : PySem.W.plainGet K C name = true)
    (hf : PySem.W.findIn K (.ref C) name = some (some (.ref f))) (ht : PySem.W.isFn K (.ref f) = true) (hv : mA name = none) (h : Q (.ref f, [.ref x]) s) :
    wpAny (model prog w) A (getMethod (.ref x) name pl) Q E s := by
  obtain ⟨od, J, hl⟩ := I.look
  exact PySem.W.method_fn X J (PySem.W.plainGet_of hg).1 (PySem.W.plainGet_of hg).2 hf (beq_iff_eq.mp ht) (by show (PySem.W.lookIn name od).map (·.isSome) = some false; rw [hl, hv]; rfl) h

theorem set_map {ns : List Str} {Q : Unit → Shared → Prop} (X : K.In s.heap) (I : ObjM s.heap x dx C mA)
    (hs : PySem.W.findIn K (.ref C) "__setattr__" = some (some (.builtin "object.__setattr__"))) (hp : PySem.W.plainOver K C = true) (ht : PySem.W.takerIn K C name = some none) (hh : PySem.W.hasDictIn K C = true)
    (hw : PySem.Within mA ns) (hsz : ns.length ≤ sizeLine)
    (h : ∀ h', ObjM h' x dx C (fun y => if y = name then some v else mA y) → Heap.SameBut dx s.heap h' → Q () { s with heap := h', toks := s.toks + 2 }) :
    wpAny (model prog w) A (setAttr (.ref x) name v) Q E s := by
  obtain ⟨od, J, hl⟩ := I.look
  refine PySem.W.set_plain X J hs (PySem.W.osa_open (s := { s with toks := s.toks + 1 }) (r := none) X J hp ht fun b => ?_)
  obtain ⟨cd, hc, hd'⟩ := PySem.W.any_some hh
  have hx : s.heap.get? x = some ⟨.ref C, some dx, .plain, #[]⟩ := I.obj
  refine wpAny_bind (wpAny_pure (wpAny_bind (wpAny_bind (wpAny_loadPart hx (wpAny_bind (PySem.W.Looks.here (s := { s with toks := s.toks + 1 }) (PySem.W.looks_clsIn X hc) ?_))))))
  rw [hd']
  refine wpAny_pure (a := some dx) (wpAny_bind (wpAny_pure (wpAny_bind ?_)))
  refine wpAny_nsSet1 (s := { s with toks := s.toks + 1 }) I.ns fun h' hn2 hs2 => ?_
  obtain ⟨oD, esD, epD, hoD, hdD, hcD⟩ := hn2.count (PySem.Within.cons name v hw)
  refine wpAny_bind (wpAny_lookBehind hoD (by rw [hdD]; exact pastItsLine_dict (Nat.le_trans hcD (by rw [List.length_cons]; omega))) ?_)
  exact wpAny_pure (h _ ⟨(hs2.2 _ (Ne.symm I.ne)).trans I.obj, hn2, I.ne⟩ hs2)

theorem make_map {R : Result → Shared → Prop} {vs : List Value} {kw : List (Str × Value)} (X : K.In s.heap) (hm : PySem.W.makesIn K C = true)
    (hi : PySem.W.findIn K (.ref C) "__init__" = some (some (.ref f))) (hf : PySem.W.typeIn K (.ref f) = some (.type "function"))
    (h : codeAny (model prog w) (A.under (.builtin "type.__call__" ⟨.ref C :: vs, kw⟩)) (.call (.ref f) ⟨.ref (s.heap.objs.size + 1) :: vs, kw⟩) (PySem.W.InitBack (s.heap.objs.size + 1) R)
      { s with heap := (s.heap.push PySem.W.emptyDict).push (PySem.W.instObj C s.heap.objs.size) }) :
    codeAny (model prog w) A (.call (.ref C) ⟨vs, kw⟩) R s := by
  obtain ⟨hh, g, d, t, os⟩ := s
  exact PySem.W.make_core (PySem.W.makes_of X hm) (PySem.W.looks_findIn X hi) (fun self => PySem.W.bind_fn X self hf) (.inl rfl) h
end

/-! ### the attributes as a list of pairs -/
def putF (f : Str) (v : V) : List (Str × V) → List (Str × V)
  | [] => [(f, v)]
  | (g, x) :: r => if g = f then (g, v) :: r else (g, x) :: putF f v r
theorem lookup_putF (f g : Str) (v : V) : ∀ fs : List (Str × V), (putF f v fs).lookup g = if g = f then some v else fs.lookup g
  | [] => by
    show List.lookup g [(f, v)] = _
    by_cases h : g = f
    · have hb : (g == f) = true := beq_iff_eq.mpr h
      simp only [List.lookup, hb, if_pos h]
    · have hb : (g == f) = false := beq_eq_false_iff_ne.mpr h
      simp only [List.lookup, hb, if_neg h]
  | (k, x) :: r => by
    have ih := lookup_putF f g v r
    rw [show putF f v ((k, x) :: r) = (if k = f then (k, v) :: r else (k, x) :: putF f v r) from rfl]
    by_cases hk : k = f
    · rw [if_pos hk]
      by_cases h : g = k
      · have hb : (g == k) = true := beq_iff_eq.mpr h
        simp only [List.lookup, hb, if_pos (h.trans hk)]
      · have hb : (g == k) = false := beq_eq_false_iff_ne.mpr h
        simp only [List.lookup, hb, if_neg (fun e : g = f => h (e.trans hk.symm))]
    · rw [if_neg hk]
      by_cases h : g = k
      · have hb : (g == k) = true := beq_iff_eq.mpr h
        simp only [List.lookup, hb, if_neg (fun e : g = f => hk (h.symm.trans e))]
      · have hb : (g == k) = false := beq_eq_false_iff_ne.mpr h
        simp only [List.lookup, hb]
        exact ih
theorem keys_putF (f : Str) (v : V) : ∀ fs : List (Str × V), f ∈ (putF f v fs).map (·.1) ∧ ∀ g, g ∈ fs.map (·.1) → g ∈ (putF f v fs).map (·.1)
  | [] => ⟨by simp [putF], fun g h => by simp at h⟩
  | (k, x) :: r => by
    obtain ⟨i1, i2⟩ := keys_putF f v r
    rw [show putF f v ((k, x) :: r) = (if k = f then (k, v) :: r else (k, x) :: putF f v r) from rfl]
    by_cases hk : k = f
    · rw [if_pos hk]
      subst hk
      exact ⟨by simp, fun g h => by simpa using h⟩
    · rw [if_neg hk]
      refine ⟨?_, fun g h => ?_⟩
      · rw [List.map_cons]
        exact List.mem_cons_of_mem _ i1
      · rw [List.map_cons] at h ⊢
        rcases List.mem_cons.mp h with e | e
        · exact List.mem_cons.mpr (.inl e)
        · exact List.mem_cons_of_mem _ (i2 g e)
theorem length_putF (f : Str) (v : V) : ∀ fs : List (Str × V), (putF f v fs).length ≤ fs.length + 1
  | [] => by simp [putF]
  | (k, x) :: r => by
    have ih := length_putF f v r
    rw [show putF f v ((k, x) :: r) = (if k = f then (k, v) :: r else (k, x) :: putF f v r) from rfl]
    by_cases hk : k = f
    · rw [if_pos hk, List.length_cons, List.length_cons]; omega
    · rw [if_neg hk, List.length_cons, List.length_cons]; omega

theorem RelO.some_of {v : V} {o : Option Value} (r : RelO (some v) o) : ∃ u, o = some u ∧ RelV v u := by
  cases o with
  | none => exact (show False from r).elim
  | some u => exact ⟨u, rfl, r⟩
theorem RelO.none_of {o : Option Value} (r : RelO none o) : o = none := by
  cases o with
  | none => rfl
  | some u => exact (show False from r).elim
theorem handed_of {v : V} {u : Value} (r : RelV v u) : PySem.W.handedIn u = true := by
  cases v with
  | non => cases (show u = Value.none from r); rfl
  | bl b => cases (show u = Value.bool b from r); rfl
  | int i => obtain ⟨t, e⟩ := (show ∃ t, u = Value.int i t from r); cases e; rfl
  | str x => obtain ⟨t, e⟩ := (show ∃ t, u = Value.str x t from r); cases e; rfl
  | byt b => obtain ⟨t, e⟩ := (show ∃ t, u = Value.bytes b t from r); cases e; rfl
  | flt b => obtain ⟨t, e⟩ := (show ∃ t, u = Value.float b t from r); cases e; rfl
  | ref a => cases (show u = Value.ref a from r); rfl
  | ty n => cases (show u = Value.type n from r); rfl

section
variable {P : Program} {w : World} {H H' : Hp} {h h' : Heap} {a C dx : Addr} {fs fs' : List (Str × V)}
theorem ins_get (hok : HOk P w H h) (e : H a = some (.ins C dx fs)) : ∃ mA, ObjM h a dx C mA ∧ (∀ f, RelO (fs.lookup f) (mA f)) ∧ PySem.Within mA (fs.map (·.1)) ∧ fs.length ≤ 1000 ∧ H dx = some (.own a) := by
  obtain ⟨d, z, ne, ob, mA, n, r, q⟩ := (show ObjOk P w H h a (.ins C dx fs) from hok a _ e)
  exact ⟨mA, ⟨ob, n, ne⟩, r, q, z, d⟩
end

/-! ### what of the text a class must have -/
structure Cls (K : PySem.W.Frag) (C : Addr) : Prop where
  pg : PySem.W.plainGet K C Str.empty = true
  hd : PySem.W.hasDictIn K C = true
  po : PySem.W.plainOver K C = true
  sa : PySem.W.findIn K (.ref C) "__setattr__" = some (some (.builtin "object.__setattr__"))
theorem Cls.get {K : PySem.W.Frag} {C : Addr} (c : Cls K C) (f : Str) : PySem.W.plainGet K C f = true := c.pg
def NoAttr (K : PySem.W.Frag) (C : Addr) (f : Str) : Prop := PySem.W.findIn K (.ref C) f = some none
theorem NoAttr.taker {K : PySem.W.Frag} {C : Addr} {f : Str} (n : NoAttr K C f) : PySem.W.takerIn K C f = some none := by
  unfold PySem.W.takerIn
  rw [show PySem.W.findIn K (.ref C) f = some none from n]
  rfl
structure Con (K : PySem.W.Frag) (C : Addr) (f : Str) (v : V) (u : Value) : Prop where
  at_ : PySem.W.findIn K (.ref C) f = some (some u)
  rel : RelV v u
  get : PySem.W.specialIn K u "__get__" = some none
  cp : PySem.W.copiedNames.contains f = false
structure Meth (K : PySem.W.Frag) (C : Addr) (m : Str) (f : Addr) : Prop where
  at_ : PySem.W.findIn K (.ref C) m = some (some (.ref f))
  fn : PySem.W.isFn K (.ref f) = true
  kp : PySem.W.keepIn K (.ref f) = true

section
variable {X : Cx} {pins : List (Addr × Obj)} {σ : St} {H : Hp} {s : Shared} {a C dx : Addr} {fs : List (Str × V)} {f : Str} {v : V} {A : Around} {E : Value → Shared → Prop}

theorem getattr_ok {b : Bool} {Q : Value → Shared → Prop} (I : Inv X pins σ H s) (e : H a = some (.ins C dx fs)) (c : Cls X.K C) (n : NoAttr X.K C f) (l : fs.lookup f = some v)
    (h : ∀ u s', Inv X pins σ H s' → RelV v u → Q u s') : wpAny (model X.prog X.w) A (getAttr (.ref a) f b) Q E s := by
  obtain ⟨mA, O, r, _, _, _⟩ := ins_get I.hok e
  obtain ⟨u, hu, ru⟩ := RelO.some_of (v := v) (o := mA f) (by rw [← l]; exact r f)
  exact get_map I.kIn O (c.get f) c.hd n hu (handed_of ru) (h u _ (I.tok _) ru)

theorem getmeth_ok {m : Str} {g : Addr} {pl : Sem Bool} {Q : Value × List Value → Shared → Prop} (I : Inv X pins σ H s) (e : H a = some (.ins C dx fs)) (c : Cls X.K C) (k : Meth X.K C m g) (l : fs.lookup m = none)
    (h : Q (.ref g, [.ref a]) s) : wpAny (model X.prog X.w) A (getMethod (.ref a) m pl) Q E s := by
  obtain ⟨mA, O, r, _, _, _⟩ := ins_get I.hok e
  have hn : mA m = none := RelO.none_of (by rw [← l]; exact r m)
  exact get_meth I.kIn O (c.get m) k.at_ k.fn hn h

theorem setattr_ok {y : V} {u : Value} {Q : Unit → Shared → Prop} (I : Inv X pins σ H s) (e : H a = some (.ins C dx fs)) (c : Cls X.K C) (n : NoAttr X.K C f) (hl : fs.length < 1000) (ry : RelV y u)
    (h : ∀ s', Inv X pins σ (upd H a (.ins C dx (putF f y fs))) s' → Q () s') : wpAny (model X.prog X.w) A (setAttr (.ref a) f u) Q E s := by
  obtain ⟨mA, O, r, wi, _, ho⟩ := ins_get I.hok e
  have hz : (fs.map (·.1)).length ≤ sizeLine := by rw [List.length_map, sizeLine_eq]; omega
  refine set_map I.kIn O c.sa c.po n.taker c.hd wi hz fun h' O' sb => h _ ?_
  have hd : ∃ o, h'.get? dx = some o := let ⟨o, _, _, e', _⟩ := O'.ns; ⟨o, e'⟩
  refine I.write (x := a) (e := dx) (by rw [e]; exact True.intro) (.inr ho) (fun b q hb z => (sb.2 b hb).trans z) hd ?_
  refine ⟨by rw [upd_ne O.ne]; exact ho, ?_, O.ne, O'.obj, _, O'.ns, fun g => ?_, fun g hg => ?_⟩
  · have := length_putF f y fs; omega
  · show RelO ((putF f y fs).lookup g) (if g = f then some u else mA g)
    rw [lookup_putF]
    by_cases q : g = f
    · rw [if_pos q, if_pos q]; exact ry
    · rw [if_neg q, if_neg q]; exact r g
  · by_cases q : g = f
    · rw [q]; exact (keys_putF f y fs).1
    · refine (keys_putF f y fs).2 g (wi g fun z => hg ?_)
      show (if g = f then some u else mA g) = none
      rw [if_neg q]; exact z

theorem Inv.made (I : Inv X pins σ H s) : Inv X pins σ (upd (upd H s.heap.objs.size (.own (s.heap.objs.size + 1))) (s.heap.objs.size + 1) (.ins C s.heap.objs.size []))
    { s with heap := (s.heap.push PySem.W.emptyDict).push (PySem.W.instObj C s.heap.objs.size) } := by
  have e1 : (s.heap.push PySem.W.emptyDict).get? s.heap.objs.size = some PySem.W.emptyDict := Heap.get?_push_size s.heap rfl
  have e2 : ((s.heap.push PySem.W.emptyDict).push (PySem.W.instObj C s.heap.objs.size)).get? (s.heap.objs.size + 1) = some (PySem.W.instObj C s.heap.objs.size) := by
    have := Heap.get?_push_size (s.heap.push PySem.W.emptyDict) (o := PySem.W.instObj C s.heap.objs.size) rfl
    rwa [Heap.size_push] at this
  have e3 : (s.heap.push PySem.W.emptyDict).Ns s.heap.objs.size (fun _ => none) := ⟨PySem.W.emptyDict, #[], _, e1, rfl, (fun e he => absurd he (by simp)), fun _ => rfl⟩
  have I1 := I.laid (a := s.heap.objs.size) (o := .own (s.heap.objs.size + 1)) (h' := s.heap.push PySem.W.emptyDict) (t' := s.toks) (fun b u q => Heap.get?_push_of_some _ q) (Nat.le_refl _) ⟨_, e1⟩
  refine I1.laid (a := s.heap.objs.size + 1) (o := .ins C s.heap.objs.size []) (t' := s.toks) (fun b u q => Heap.get?_push_of_some _ q) (Nat.le_of_eq (Heap.size_push _ _)) ?_
  have ne : s.heap.objs.size ≠ s.heap.objs.size + 1 := Nat.ne_of_lt (Nat.lt_succ_self _)
  refine ⟨by rw [upd_ne ne, upd_same], Nat.zero_le _, ne, e2, fun _ => none, (Heap.Ns1.of_empty e3).at fun o q => Heap.get?_push_of_some _ q, fun _ => True.intro, fun y hy => absurd rfl hy⟩

theorem attr_of {prog : Program} {w : World} {env : Env} {e : Expr} {f : Str} {pos : Pos} {s : Shared} {Q : Value → Shared → Prop} (hb : attributeBase e f env (eval e env) = eval e env)
    (h : wpAny (model prog w) A (eval e env) (fun o s₁ => wpAny (model prog w) A (getAttr o f true) Q E s₁) E s) : wpAny (model prog w) A (eval (.Attribute e f pos) env) Q E s :=
  Attribute_any_ h (by rw [arm_eval_Attribute, hb])
end

/-! ### readings and rules -/
def tFld (K : PySem.W.Frag) (ta : TE) (f : Str) : TE := fun σ H Q => ta σ H fun x H1 => ∃ a C dx fs v, x = .ref a ∧ H1 a = some (.ins C dx fs) ∧ Cls K C ∧ NoAttr K C f ∧ fs.lookup f = some v ∧ Q v H1
section
variable {X : Cx} {o e value : Expr} {f : Str} {pos pos' tpos : Pos} {ta tv : TE}
theorem pe_fld (he : PE X e ta) (hb : attributeBase e f X.env (eval e X.env) = eval e X.env) : PE X (.Attribute e f pos) (tFld X.K ta f) := by
  with_unfolding_all
    intro pins s σ H Q I h
    refine attr_of hb (thn (he pins s σ H _ I h) fun u s1 ⟨x, H1, I1, rx, a, C, dx, fs, v, ex, ea, c, n, l, q⟩ => ?_)
    subst ex
    obtain rfl : u = Value.ref a := rx
    exact getattr_ok I1 ea c n l fun u' s2 I2 ru => ⟨v, H1, I2, ru, q⟩
end

/-! ### isinstance -/
section
variable {X : Cx} {pins : List (Addr × Obj)} {σ : St} {H : Hp} {s : Shared} {A : Around} {E : Value → Shared → Prop} {Q : Value → Shared → Prop} {c : Value} {b : Bool}
inductive TyOf (K : PySem.W.Frag) (H : Hp) : V → Value → Prop where
  | non : TyOf K H .non (.type "NoneType")
  | bl (x : Bool) : TyOf K H (.bl x) (.type "bool")
  | int (i : Int) : TyOf K H (.int i) (.type "int")
  | str (x : Str) : TyOf K H (.str x) (.type "str")
  | flt (x : UInt64) : TyOf K H (.flt x) (.type "float")
  | lst {a : Addr} {xs : List V} (e : H a = some (.lst xs)) : TyOf K H (.ref a) (.type "list")
  | frz {a : Addr} {o : Obj} {xs : List V} (e : H a = some (.frz o (.lst xs))) : TyOf K H (.ref a) (.type "list")
  | tup {a : Addr} {xs : List V} (e : H a = some (.tup xs)) : TyOf K H (.ref a) (.type "tuple")
  | dK {a : Addr} {kvs : List (Key × V)} (e : H a = some (.dK kvs)) : TyOf K H (.ref a) (.type "dict")
  | dT {a : Addr} {kvs : List (List Key × V)} (e : H a = some (.dT kvs)) : TyOf K H (.ref a) (.type "dict")
  | ins {a C dx : Addr} {fs : List (Str × V)} (e : H a = some (.ins C dx fs)) (cl : Cls K C) (ha : PySem.W.findIn K (.ref C) "__class__" = some (some (.builtin "object.__class__")))
      (hn : PySem.W.specialIn K (.builtin "object.__class__") "__get__" = some (some (.builtin "getset_descriptor.__get__"))) (htk : PySem.W.takesIn K (.builtin "object.__class__") = some true)
      (hm : PySem.W.mroIn K C (.type "object") = some true) : TyOf K H (.ref a) (.ref C)
theorem isinst_ok {x : V} {u t : Value} (I : Inv X pins σ H s) (rx : RelV x u) (ty : TyOf X.K H x t) (e : PySem.W.kitOne X.K t c = some b) (h : ∀ tk, Q (.bool b) { s with toks := tk }) :
    wpAny (model X.prog X.w) A (call (.builtin "isinstance") [u, c]) Q E s := by
  cases ty with
  | non => cases (show u = Value.none from rx); exact PySem.W.kia_one PySem.W.kitx_none I.kIn True.intro e (fun z => nomatch z) h
  | bl y => cases (show u = Value.bool y from rx); exact PySem.W.kia_one PySem.W.kitx_bool I.kIn True.intro e (fun z => nomatch z) h
  | int i => obtain ⟨t, q⟩ := (show ∃ t, u = Value.int i t from rx); cases q; exact PySem.W.kia_one PySem.W.kitx_int I.kIn True.intro e (fun z => nomatch z) h
  | str y => obtain ⟨t, q⟩ := (show ∃ t, u = Value.str y t from rx); cases q; exact PySem.W.kia_one PySem.W.kitx_str I.kIn True.intro e (fun z => nomatch z) h
  | flt y => obtain ⟨t, q⟩ := (show ∃ t, u = Value.float y t from rx); cases q; exact PySem.W.kia_one PySem.W.kitx_float I.kIn True.intro e (fun z => nomatch z) h
  | @lst a xs ea =>
    cases (show u = Value.ref a from rx)
    obtain ⟨_, _, n, _, h1⟩ := (show ObjOk X.prog X.w H s.heap a (.lst xs) from I.hok a _ ea)
    exact PySem.W.kia_one PySem.W.kitx_list I.kIn ⟨_, h1, rfl⟩ e (fun z => nomatch z) h
  | @frz a ob xs ea =>
    cases (show u = Value.ref a from rx)
    obtain ⟨_, _, _, n, _, h1⟩ := (show ObjOk X.prog X.w H s.heap a (.frz ob (.lst xs)) from I.hok a _ ea)
    exact PySem.W.kia_one PySem.W.kitx_list I.kIn ⟨_, h1, rfl⟩ e (fun z => nomatch z) h
  | @tup a xs ea =>
    cases (show u = Value.ref a from rx)
    obtain ⟨_, _, _, p⟩ := (show ObjOk X.prog X.w H s.heap a (.tup xs) from I.hok a _ ea)
    obtain ⟨o, h1, h2, _⟩ := p
    exact PySem.W.kia_one PySem.W.kitx_tuple I.kIn ⟨o, h1, h2⟩ e (fun z => nomatch z) h
  | @dK a kvs ea =>
    cases (show u = Value.ref a from rx)
    obtain ⟨_, _, vs, _, p⟩ := (show ObjOk X.prog X.w H s.heap a (.dK kvs) from I.hok a _ ea)
    obtain ⟨o, es, ep, h1, h2, _⟩ := p
    exact PySem.W.kia_one PySem.W.kitx_dict I.kIn ⟨o, h1, h2.1⟩ e (fun z => nomatch z) h
  | @dT a kvs ea =>
    cases (show u = Value.ref a from rx)
    obtain ⟨_, _, xs, _, o, es, ep, h1, h2, _⟩ := (show ObjOk X.prog X.w H s.heap a (.dT kvs) from I.hok a _ ea)
    exact PySem.W.kia_one PySem.W.kitx_dict I.kIn ⟨o, h1, h2.1⟩ e (fun z => nomatch z) h
  | @ins a C dx fs ea cl ha hn htk hm =>
    cases (show u = Value.ref a from rx)
    obtain ⟨mA, O, _⟩ := ins_get I.hok ea
    obtain ⟨od, J, _⟩ := O.look
    exact PySem.W.kia_one (PySem.W.kitx_own (cl.get _) cl.hd ha hn htk hm) I.kIn J e (fun z => nomatch z) h
end
end L2

namespace L2
open PySem PySem.Spec PyProof.Rows

/-! ### room -/
structure Room (k : Nat) (A : Around) : Prop where
  hd : A.handled = none
  dp : A.depth + 3 * k + 5 < recursionLimit
  un : A.units + 16 * k + 200 < cLine
  gd : A.guards = some []
theorem Room.mono {j k : Nat} {A : Around} (r : Room k A) (h : j ≤ k) : Room j A := ⟨r.hd, by have := r.dp; omega, by have := r.un; omega, r.gd⟩
theorem Room.deeper {k : Nat} {A : Around} (r : Room (k + 1) A) (env : Env) : Room k (A.deeper env) :=
  ⟨r.hd, by have := r.dp; show A.depth + 1 + 3 * k + 5 < _; omega, by have := r.un; show A.units + 3 + 16 * k + 200 < _; omega, r.gd⟩
theorem make_depth {A : Around} {C : Addr} {us : List Value} {kw : List (Str × Value)} : (A.under (.builtin "type.__call__" ⟨.ref C :: us, kw⟩)).depth = A.depth + 1 := by
  first | rfl | simp [Around.under, Code.weight, Code.isCreation, Code.isGuard, Code.isCaller, Code.frames, Code.isFrame, guardIds]
theorem make_units {A : Around} {C : Addr} {us : List Value} {kw : List (Str × Value)} : (A.under (.builtin "type.__call__" ⟨.ref C :: us, kw⟩)).units = A.units + 1 := by
  first | rfl | simp [Around.under, Code.cUnits, Code.frames, Code.isFrame]
theorem make_guards {A : Around} {C : Addr} {us : List Value} {kw : List (Str × Value)} : (A.under (.builtin "type.__call__" ⟨.ref C :: us, kw⟩)).guards = A.guards := by
  first | rfl | simp [Around.under, Code.guards, Code.isGuard, guardIds, pushGuards]
theorem Room.make {k : Nat} {A : Around} (r : Room (k + 1) A) (C : Addr) (us : List Value) (kw : List (Str × Value)) : Room k (A.under (.builtin "type.__call__" ⟨.ref C :: us, kw⟩)) :=
  ⟨r.hd, by have := r.dp; rw [make_depth]; omega, by have := r.un; rw [make_units]; omega, by rw [make_guards]; exact r.gd⟩
theorem Room.depth {k : Nat} {A : Around} (r : Room k A) : A.depth < recursionLimit := by have := r.dp; omega
theorem Room.units0 {k : Nat} {A : Around} (r : Room k A) : A.units < cLine := by have := r.un; omega

/-! ### argument lists and displays -/
def tNil : TA := fun _ H Q => Q [] H
def tCons (ta : TE) (tr : TA) : TA := fun σ H Q => ta σ H fun x H1 => tr σ H1 fun xs H2 => Q (x :: xs) H2
section
variable {X : Cx} {e : Expr} {es : List Expr} {te : TE} {t : TA} {pos : Pos}
theorem pa_nil : PA X [] tNil := by
  with_unfolding_all
    exact fun _ _ _ _ H Q I h => Calls.spliced_nil ⟨[], H, I, .nil, h⟩
theorem pa_cons (ha : PE X e te) (hr : PA X es t) (hs : starEach (e :: es) X.env = (false, eval e X.env) :: starEach es X.env := by rfl) : PA X (e :: es) (tCons te t) := by
  with_unfolding_all
    intro pos pins s σ H Q I h
    rw [hs]
    show wpAny _ _ (spliced ((false, eval e X.env) :: backTo pos (starEach es X.env))) _ _ s
    refine Calls.spliced_cons (thn (ha pins s σ H _ I h) fun u s1 ⟨x, H1, I1, r1, q1⟩ => ?_)
    exact thn (hr pos pins s1 σ H1 _ I1 q1) fun us s2 ⟨xs, H2, I2, r2, q2⟩ => ⟨x :: xs, H2, I2, .cons r1 r2, q2⟩

end

/-! ### what a def promises -/
abbrev Sp := List V → Hp → VK → XK → Prop
abbrev CXT := List Env → Hp → Shared → XK → Value → Shared → Prop

structure Env0 (P : Program) (w : World) (K : PySem.W.Frag) (mg : Str → Option Value) (base : Heap) (A : Around) (outer : List Env) (s : Shared) (H : Hp) : Prop where
  frames : A.frames = some outer
  mod : Mod K mg base
  bs : ∀ b o, base.get? b = some o → s.heap.get? b = some o ∧ H b = none
  bsz : base.objs.size ≤ s.heap.objs.size
  funs : s.heap.FunFrames base outer
  frf : ∀ b ∈ frs outer, H b = none
  hok : HOk P w H s.heap
  bare : AllBare s.gens
def CE (outer : List Env) (P : Program) (w : World) (H : Hp) (s : Shared) (Q : VK) (u : Value) (s' : Shared) : Prop :=
  ∃ v H', s'.os = s.os ∧ AllBare s'.gens ∧ Un (frs outer) [] H H' s.heap s'.heap ∧ HOk P w H' s'.heap ∧ RelV v u ∧ Q v H'
def CR (CX : CXT) (outer : List Env) (P : Program) (w : World) (H : Hp) (s : Shared) (Q : VK) (E : XK) (r : Result) (s' : Shared) : Prop :=
  match r with
  | .ok (.ret u) => CE outer P w H s Q u s'
  | .ok _ => False
  | .error e => CX outer H s E e s'
structure FnOk (P : Program) (w : World) (K : PySem.W.Frag) (mg : Str → Option Value) (base : Heap) (CX : CXT) (k : Nat) (f : Addr) (fd : FuncData) (ps : List Str) (sp : Sp) : Prop where
  len : ∀ vs H Q E, sp vs H Q E → vs.length = ps.length
  run : ∀ (A : Around) (outer : List Env) (s : Shared) (H : Hp) (args : Args) (us : List Value) (vs : List V) (Q : VK) (E : XK), Room k A → Env0 P w K mg base A outer s H → BindsTo s fd args (ps.zip us) → Vals vs us → sp vs H Q E →
    codeAny (model P w) A (.call (.ref f) args) (CR CX outer P w H s Q E) s
theorem FnOk.mono {P : Program} {w : World} {K : PySem.W.Frag} {mg : Str → Option Value} {base : Heap} {CX : CXT} {j k : Nat} {f : Addr} {fd : FuncData} {ps : List Str} {sp : Sp} (F : FnOk P w K mg base CX j f fd ps sp) (h : j ≤ k) :
    FnOk P w K mg base CX k f fd ps sp := ⟨F.len, fun A outer s H args us vs Q E hr => F.run A outer s H args us vs Q E (hr.mono h)⟩
theorem FnOk.imp {P : Program} {w : World} {K : PySem.W.Frag} {mg : Str → Option Value} {base : Heap} {CX : CXT} {k : Nat} {f : Addr} {fd : FuncData} {ps : List Str} {sp sp' : Sp} (F : FnOk P w K mg base CX k f fd ps sp)
    (h : ∀ vs H Q E, sp' vs H Q E → sp vs H Q E) : FnOk P w K mg base CX k f fd ps sp' :=
  ⟨fun vs H Q E q => F.len vs H Q E (h _ _ _ _ q), fun A outer s H args us vs Q E hr he hb hv hs => F.run A outer s H args us vs Q E hr he hb hv (h _ _ _ _ hs)⟩

theorem Env0.make {P : Program} {w : World} {K : PySem.W.Frag} {mg : Str → Option Value} {base : Heap} {A : Around} {outer : List Env} {s : Shared} {H : Hp} (e : Env0 P w K mg base A outer s H) (C : Addr) (us : List Value) (kw : List (Str × Value)) :
    Env0 P w K mg base (A.under (.builtin "type.__call__" ⟨.ref C :: us, kw⟩)) outer s H := ⟨by first | exact e.frames | (simpa [Around.under, Code.envs, Code.isFrame, pushEnvs] using e.frames), e.mod, e.bs, e.bsz, e.funs, e.frf, e.hok, e.bare⟩
section
variable {X : Cx} {pins : List (Addr × Obj)} {σ : St} {H : Hp} {s s' : Shared}
theorem Inv.env0 (I : Inv X pins σ H s) : Env0 X.prog X.w X.K X.mg X.base X.A X.stack s H :=
  ⟨I.ok.frames, I.ok.mod, I.bs, Nat.le_trans I.ok.bsz I.sz, I.stack, I.stkFree, I.hok, I.bare⟩
theorem Inv.after {Q : VK} {u : Value} (I : Inv X pins σ H s) (h : CE X.stack X.prog X.w H s Q u s') : EP X pins σ Q u s' := by
  obtain ⟨v, H', os, bare, un, hok, r, q⟩ := h
  obtain ⟨hh, g, d, t, os'⟩ := s'
  obtain rfl : os' = s.os := os
  exact ⟨v, H', I.call (h' := hh) (g' := g) (d' := d) (t' := t) (ch := []) un hok bare (fun b z => absurd z (by simp)), r, q⟩
end

/-! ### calls -/
def tCall (sp : Sp) (dvs : List V) (E : XK) (t : TA) : TE := fun σ H Q => t σ H fun vs H1 => sp (vs ++ dvs) H1 Q E
def Binds (K : PySem.W.Frag) (fd : FuncData) (ps : List Str) (ds : List Value) : Prop :=
  ∀ (s : Shared) (us : List Value), K.In s.heap → (us ++ ds).length = ps.length → BindsTo s fd ⟨us, []⟩ (ps.zip (us ++ ds))
theorem Binds.all {K : PySem.W.Frag} {fd : FuncData} {ps : List Str} (h : ∀ us : List Value, us.length = ps.length → bindArgs fd ⟨us, []⟩ = pure (ps.zip us)) : Binds K fd ps [] := fun s us _ hl => by
  rw [List.append_nil] at hl ⊢
  exact .of_eq (h us hl)

def Passes (CX : CXT) (X : Cx) (E : XK) : Prop := ∀ (pins : List (Addr × Obj)) (σ : St) (H : Hp) (s : Shared) (e : Value) (s' : Shared), Inv X pins σ H s → CX X.stack H s E e s' → X.xe e s'

section
variable {X : Cx} {CX : CXT} {k : Nat} {f C : Addr} {fd : FuncData} {ps : List Str} {sp : Sp} {dvs : List V} {ds : List Value} {E : XK} {x m : Str} {p pos apos : Pos} {e o : Expr} {es : List Expr} {ta : TE} {t : TA}

theorem run_fn {pins : List (Addr × Obj)} {σ : St} {H : Hp} {s : Shared} {Q : VK} {us : List Value} {vs : List V} (F : FnOk X.prog X.w X.K X.mg X.base CX k f fd ps sp) (hr : Room k X.A) (hb : Binds X.K fd ps ds) (hd : Vals dvs ds) (hx : Passes CX X E)
    (I : Inv X pins σ H s) (r : Vals vs us) (h : sp (vs ++ dvs) H Q E) : wpAny (model X.prog X.w) X.A (call (.ref f) us) (EP X pins σ Q) X.xe s := by
  have r2 : Vals (vs ++ dvs) (us ++ ds) := r.append hd
  have hl : (us ++ ds).length = ps.length := by rw [← r2.length]; exact F.len _ _ _ _ h
  refine wpAny_call (codeAny_mono (F.run X.A X.stack s H ⟨us, []⟩ (us ++ ds) (vs ++ dvs) Q E hr I.env0 (hb s us I.kIn hl) r2 h) fun r s' hq => ?_)
  cases r with
  | error e => exact hx pins σ H s e s' I hq
  | ok fl =>
    cases fl with
    | ret u => exact I.after hq
    | next => exact False.elim hq
    | brk => exact False.elim hq
    | cont => exact False.elim hq

theorem pe_call (F : FnOk X.prog X.w X.K X.mg X.base CX k f fd ps sp) (hr : Room k X.A) (hg : Gl X x) (hm : X.mg x = some (.ref f)) (hk : PySem.W.keepIn X.K (.ref f) = true) (hb : Binds X.K fd ps ds) (hd : Vals dvs ds) (hx : Passes CX X E)
    (ha : PA X (e :: es) t) (hdb : (x == ("__debug__" : Str)) = false := by decide) (he : starEach (e :: es) X.env = (false, eval e X.env) :: starEach es X.env := by rfl) (hpl : (backTo pos (starEach es X.env)).any (·.1) = false := by rfl) :
    PE X (.Call (.Name x p) (e :: es) [] pos) (tCall sp dvs E t) := by
  with_unfolding_all
    intro pins s σ H Q I h
    refine wpAny_Call_Name_kw (ld_glob I hg hm ?_ hdb)
    refine PySem.W.callWith_K (h₀ := X.base) I.ok.mod.kin hk (thn (ha pos pins s σ H _ I h) fun us s1 ⟨vs, H1, I1, r, q⟩ => ⟨I1.kIn, ?_⟩) he hpl
    exact run_fn F hr hb hd hx I1 r q
structure Mk (K : PySem.W.Frag) (C f : Addr) : Prop where
  makes : PySem.W.makesIn K C = true
  init : PySem.W.findIn K (.ref C) "__init__" = some (some (.ref f))
  fn : PySem.W.isFn K (.ref f) = true
  kp : PySem.W.keepIn K (.ref C) = true

theorem run_make {pins : List (Addr × Obj)} {σ : St} {H : Hp} {s : Shared} {Q : VK} {us : List Value} {vs : List V} (M : Mk X.K C f) (F : FnOk X.prog X.w X.K X.mg X.base CX k f fd ps sp) (hr : Room (k + 1) X.A) (hb : Binds X.K fd ps ds) (hd : Vals dvs ds)
    (hx : Passes CX X E) (I : Inv X pins σ H s) (r : Vals vs us)
    (h : ∀ x dx, H x = none → H dx = none → dx ≠ x → sp (.ref x :: (vs ++ dvs)) (upd (upd H dx (.own x)) x (.ins C dx [])) (fun v H2 => v = .non ∧ Q (.ref x) H2) E) :
    wpAny (model X.prog X.w) X.A (call (.ref C) us) (EP X pins σ Q) X.xe s := by
  have hq := h (s.heap.objs.size + 1) s.heap.objs.size (I.hok.fresh (Nat.le_succ _)) (I.hok.fresh (Nat.le_refl _)) (Nat.ne_of_lt (Nat.lt_succ_self _))
  have I2 := Inv.made (C := C) I
  have r2 : Vals (V.ref (s.heap.objs.size + 1) :: (vs ++ dvs)) (Value.ref (s.heap.objs.size + 1) :: (us ++ ds)) := .cons rfl (r.append hd)
  have hl : (Value.ref (s.heap.objs.size + 1) :: us ++ ds).length = ps.length := by
    have e := r2.length
    rw [F.len _ _ _ _ hq] at e
    exact e.symm
  refine wpAny_call (make_map (f := f) I.kIn M.makes M.init (beq_iff_eq.mp M.fn) (codeAny_mono (F.run _ X.stack _ _ ⟨Value.ref (s.heap.objs.size + 1) :: us, []⟩ (Value.ref (s.heap.objs.size + 1) :: (us ++ ds)) _ _ E (hr.make C us [])
    (I2.env0.make C us []) (hb _ (Value.ref (s.heap.objs.size + 1) :: us) I2.kIn hl) r2 hq) fun r s' hq' => ?_))
  cases r with
  | error e => exact hx pins σ _ _ e s' I2 hq'
  | ok fl =>
    cases fl with
    | ret u =>
      obtain ⟨v, H', I3, rv, ev, q3⟩ := I2.after hq'
      subst ev
      exact ⟨rv, ⟨V.ref (s.heap.objs.size + 1), H', I3, rfl, q3⟩⟩
    | next => exact False.elim hq'
    | brk => exact False.elim hq'
    | cont => exact False.elim hq'
end

/-! ### keywords -/
section
variable {X : Cx} {CX : CXT} {k : Nat} {f C : Addr} {fd : FuncData} {ps ks : List Str} {sp : Sp} {E : XK} {x m : Str} {p pos apos kpos : Pos} {e o : Expr} {es : List Expr} {kws : List Keyword} {te ta : TE} {t tk : TA} {nm : Option Str}
structure KBinds (K : PySem.W.Frag) (fd : FuncData) (ps ks : List Str) (g : List Value → List Value → List Value) (gV : List V → List V → List V) : Prop where
  to : ∀ (s : Shared) (us ws : List Value), K.In s.heap → (g us ws).length = ps.length → BindsTo s fd ⟨us, ks.zip ws⟩ (ps.zip (g us ws))
  rel : ∀ {vs : List V} {us : List Value} {zs : List V} {ws : List Value}, Vals vs us → Vals zs ws → Vals (gV vs zs) (g us ws)
variable {g : List Value → List Value → List Value} {gV : List V → List V → List V}
end

/-! ### a def's body keeps its promise -/
structure FnScope (N P : List Str) (sc : Scope) : Prop where
  kind : sc.kind = .function
  co : sc.isCoroutine = false
  gen : sc.isGenerator = false
  nd : N.Nodup
  pre : N.take P.length = P
  par : ∀ x ∈ P, sc.names.lookup x = some .local ∨ sc.names.lookup x = some .cell
  nofree : ∀ y ∈ sc.names, y.2 ≠ .free

theorem bindL_out {kindOf : Str → Option NameKind} {x : Str} : ∀ {binds : List (Str × Value)} {m : Str → Option Value}, (∀ v, (x, v) ∉ binds) → bindL kindOf binds m x = m x
  | [], _, _ => rfl
  | (n, v) :: r, m, h => by
    unfold bindL
    rw [bindL_out fun w hw => h w (List.mem_cons_of_mem _ hw)]
    split
    · have : x ≠ n := by rintro rfl; exact h v List.mem_cons_self
      simp [this]
    · rfl
theorem bindC_out {kindOf : Str → Option NameKind} {x : Str} : ∀ {binds : List (Str × Value)} {m : Str → Option Value}, (∀ v, (x, v) ∉ binds) → bindC kindOf binds m x = m x
  | [], _, _ => rfl
  | (n, v) :: r, m, h => by
    unfold bindC
    rw [bindC_out fun w hw => h w (List.mem_cons_of_mem _ hw)]
    split
    · rfl
    · have : x ≠ n := by rintro rfl; exact h v List.mem_cons_self
      simp [this]
theorem bindL_get {kindOf : Str → Option NameKind} {x : Str} {v : Value} : ∀ {P : List Str} {vs : List Value} {i : Nat} {m : Str → Option Value}, P.Nodup → P[i]? = some x → vs[i]? = some v → kindOf x = some .local →
    bindL kindOf (P.zip vs) m x = some v
  | [], _, _, _, _, h, _, _ => by simp at h
  | _ :: _, [], _, _, _, _, h, _ => by simp at h
  | p :: P, w :: vs, 0, m, nd, h1, h2, hk => by
    simp at h1 h2; subst h1; subst h2
    show bindL kindOf ((p, w) :: P.zip vs) m p = _
    unfold bindL
    rw [bindL_out fun v hv => (List.nodup_cons.mp nd).1 (List.of_mem_zip hv).1, if_pos hk]
    simp
  | p :: P, w :: vs, i + 1, m, nd, h1, h2, hk => by
    show bindL kindOf ((p, w) :: P.zip vs) m x = _
    unfold bindL
    exact bindL_get (i := i) (List.nodup_cons.mp nd).2 (by simpa using h1) (by simpa using h2) hk
theorem bindC_get {kindOf : Str → Option NameKind} {x : Str} {v : Value} : ∀ {P : List Str} {vs : List Value} {i : Nat} {m : Str → Option Value}, P.Nodup → P[i]? = some x → vs[i]? = some v → kindOf x ≠ some .local →
    bindC kindOf (P.zip vs) m x = some v
  | [], _, _, _, _, h, _, _ => by simp at h
  | _ :: _, [], _, _, _, _, h, _ => by simp at h
  | p :: P, w :: vs, 0, m, nd, h1, h2, hk => by
    simp at h1 h2; subst h1; subst h2
    show bindC kindOf ((p, w) :: P.zip vs) m p = _
    unfold bindC
    rw [bindC_out fun v hv => (List.nodup_cons.mp nd).1 (List.of_mem_zip hv).1, if_neg hk]
    simp
  | p :: P, w :: vs, i + 1, m, nd, h1, h2, hk => by
    show bindC kindOf ((p, w) :: P.zip vs) m x = _
    unfold bindC
    exact bindC_get (i := i) (List.nodup_cons.mp nd).2 (by simpa using h1) (by simpa using h2) hk

def start (N : List Str) (vs : List V) : St := vs.map some ++ List.replicate (N.length - vs.length) none

def cxOf (CX : CXT) (P : Program) (w : World) (K : PySem.W.Frag) (mg : Str → Option Value) (base : Heap) (N : List Str) (qual : Str) (scope : Scope) (f : Addr) (cd : Value) (A : Around) (outer : List Env) (s : Shared) (H : Hp) (E : XK) : Cx where
  prog := P
  w := w
  K := K
  mg := mg
  base := base
  A := A.deeper (envOfC qual scope s.heap.objs.size f cd)
  N := N
  s₀ := s
  H₀ := H
  env := envOfC qual scope s.heap.objs.size f cd
  outer := outer
  stack := envOfC qual scope s.heap.objs.size f cd :: outer
  ex := []
  calm := true
  fn := fun _ => true
  pn := []
  xe := fun e s' => wpAny (model P w) (A.deeper (envOfC qual scope s.heap.objs.size f cd)) (leaving (envOfC qual scope s.heap.objs.size f cd) e) (fun _ s'' => CX outer H s E e s'') (fun e' s'' => CX outer H s E e' s'') s'

theorem cell_has {sc : Scope} {n : Nat} {x : Str} (h : sc.names.lookup x = some .cell) : ∃ c, (cellsFrom n sc.names []).lookup x = some c := by
  have q := PySem.W.cellsFrom_some sc.names n [] (.inl h)
  exact Option.isSome_iff_exists.mp q

theorem inv_start {CX : CXT} {P : Program} {w : World} {K : PySem.W.Frag} {mg : Str → Option Value} {base : Heap} {N ps : List Str} {qual : Str} {scope : Scope} {f : Addr} {cd : Value} {A : Around} {outer : List Env} {s s1 : Shared} {H : Hp} {E : XK} {us : List Value} {vs : List V}
    (S : FnScope N ps scope) (hd : A.handled = none) (e0 : Env0 P w K mg base A outer s H) (hl : vs.length = ps.length) (r : Vals vs us)
    (x : InCallC s s.heap.objs.size (bindL (envOfC qual scope s.heap.objs.size f cd).kindOf (ps.zip us) fun _ => none) (cellsFrom (s.heap.objs.size + 1) scope.names []) (bindC (envOfC qual scope s.heap.objs.size f cd).kindOf (ps.zip us) fun _ => none) s1) :
    Inv (cxOf CX P w K mg base N qual scope f cd A outer s H E) [] (start N vs) H s1 := by
  have hpl : ps.length ≤ N.length := by have := congrArg List.length S.pre; rw [List.length_take] at this; omega
  obtain ⟨h1, tk, rfl, hk⟩ := x.done
  have noA : ∀ b : Addr, b ∉ (cxOf CX P w K mg base N qual scope f cd A outer s H E).ex := fun b z => absurd (show b ∈ ([] : List Addr) from z) (by simp)
  refine ⟨⟨e0.mod, S.kind, rfl, rfl, Nat.le_refl _, fun y z c h1 h2 => ?_, fun y hy => ?_, fun y c _ h => ?_, fun _ => hd, Around.frames_deeper e0.frames, .inr ⟨rfl, rfl⟩, fun b z => absurd z (noA b), e0.bs, e0.bsz, fun b _ _ => noA b, fun b z => absurd z (noA b), e0.funs, e0.frf⟩,
    rfl, e0.bare, Un.kept hk, ⟨_, x.toInCall.ns, fun i y v h1 h2 h3 => ?_⟩, fun y c h => ⟨_, x.cell y c h⟩, e0.hok.fresh (Nat.le_refl _), fun y c h => ?_, fun p hp => absurd (show p ∈ ([] : List (Addr × Obj)) from hp) (by simp), e0.hok.kept hk, ?_⟩
  · exact name_of_addr x.apart (PySem.mem_of_lookup h1) (PySem.mem_of_lookup h2)
  · have hy : scope.names.lookup y = some .cell ∨ scope.names.lookup y = some .free := hy
    rcases hy with hy | hy
    · exact cell_has hy
    · exact absurd rfl (S.nofree _ (PySem.mem_of_lookup hy))
  · exact Nat.le_of_lt (x.above y c (PySem.mem_of_lookup h))
  · have hi : i < vs.length := by
      unfold start at h2
      by_cases hi : i < vs.length
      · exact hi
      · rw [List.getElem?_append_right (by simpa using hi)] at h2
        rw [List.getElem?_replicate] at h2
        split at h2 <;> cases h2
    have ha : vs[i]? = some v := by
      unfold start at h2
      rw [List.getElem?_append_left (by simpa using hi), List.getElem?_map] at h2
      cases e : vs[i]? with
      | none => rw [e] at h2; cases h2
      | some a => rw [e] at h2; cases h2; rfl
    obtain ⟨u, hu, rv⟩ := r.get ha
    have hp : ps[i]? = some y := by
      rw [← S.pre, List.getElem?_take_of_lt (by omega)]; exact h1
    have ndP : ps.Nodup := by rw [← S.pre]; exact S.nd.sublist (List.take_sublist _ _)
    refine ⟨u, rv, ?_⟩
    rcases S.par y (List.mem_of_getElem? hp) with k | k
    · exact .inl ⟨k, bindL_get ndP hp hu k⟩
    · obtain ⟨c, e⟩ := cell_has (n := s.heap.objs.size + 1) k
      refine .inr ⟨.inl k, c, e, ?_⟩
      have q := x.cell y c e
      rw [bindC_get ndP hp hu (by show scope.names.lookup y ≠ _; rw [k]; decide)] at q
      exact q
  · exact e0.hok.fresh (Nat.le_of_lt (x.above y c (PySem.mem_of_lookup h)))
  · unfold start
    show _ = N.length
    rw [List.length_append, List.length_map, List.length_replicate]
    omega

theorem fn_of {CX : CXT} {P : Program} {w : World} {K : PySem.W.Frag} {mg : Str → Option Value} {base : Heap} {k : Nat} {f : Addr} {name qual : Str} {params : Arguments} {body : List Stmt} {scope : Scope} {dV kV doc pm cdv ct oc : Value} {an od : Option Addr}
    {osl : Array (Option Value)} {N ps : List Str} {sp : Sp} (lk : K.lookup f = some ⟨oc, od, .func (PySem.W.fnOf name qual params body scope dV kV doc pm an cdv ct), osl⟩) (hcd : PySem.W.codeIn K cdv qual = true) (S : FnScope N ps scope)
    (len : ∀ vs H Q E, sp vs H Q E → vs.length = ps.length)
    (hbody : ∀ (A : Around) (outer : List Env) (s : Shared) (H : Hp) (vs : List V) (Q : VK) (E : XK), Room k (A.deeper (envOfC qual scope s.heap.objs.size f cdv)) → sp vs H Q E →
      ∃ t, PSs (cxOf CX P w K mg base N qual scope f cdv A outer s H E) body t ∧ t { nx := fun _ H' => Q .non H', rt := Q } (start N vs) H) :
    FnOk P w K mg base CX (k + 1) f (PySem.W.fnOf name qual params body scope dV kV doc pm an cdv ct) ps sp := by
  with_unfolding_all
    refine ⟨len, fun A outer s H args us vs Q E hr e0 hb r hsp => ?_⟩
    have hl := len _ _ _ _ hsp
    have KX : K.In s.heap := e0.mod.kin.keeps fun b o e => (e0.bs b o e).1
    have lim : s.heap.NoLimit := e0.mod.nolimit.keeps fun b o e => (e0.bs b o e).1
    have hkind : ∀ y ∈ ps.zip us, scope.names.lookup y.1 = some .local ∨ (scope.names.lookup y.1 = some .cell ∧ ((cellsFrom (s.heap.objs.size + 1) scope.names []).lookup y.1).isSome = true) := fun ⟨n, v⟩ hy => by
      rcases S.par n (List.of_mem_zip hy).1 with q | q
      · exact .inl q
      · exact .inr ⟨q, PySem.W.cellsFrom_some _ _ _ (.inl q)⟩
    refine codeAny_call_function hr.depth (KX _ _ lk) rfl S.co S.gen rfl (PySem.W.codeRec_of KX hcd) (hb _ _ _ _ ?_)
    refine wpAny_newFunctionEnv_cells S.kind hkind fun env he s1 x => ?_
    subst he
    refine ⟨lim.keeps x.toInCall.keep, codeAny_func ?_⟩
    obtain ⟨t, ht, hq⟩ := hbody A outer s H vs Q E (hr.deeper _) hsp
    have I : Inv (cxOf CX P w K mg base N qual scope f cdv A outer s H E) [] (start N vs) H s1 := inv_start S hr.hd e0 hl r x
    refine wpAny_mono (ht [] s1 (start N vs) H _ I hq) (fun fl s' hs => ?_) fun e s' hs => hs
    have fin : ∀ {σ' : St} {H' : Hp} {v : V} {u : Value}, Inv (cxOf CX P w K mg base N qual scope f cdv A outer s H E) [] σ' H' s' → RelV v u → Q v H' → CE outer P w H s Q u s' :=
      fun {σ' H' v u} J rv q => ⟨v, H', J.os, J.bare, J.base, J.hok, rv, q⟩
    cases fl with
    | ret u =>
      obtain ⟨v, σ', H', J, rv, q⟩ := hs
      exact fin J rv q
    | next =>
      obtain ⟨σ', H', J, q⟩ := hs
      exact fin (v := V.non) (u := Value.none) J rfl q
    | brk =>
      obtain ⟨_, _, _, q⟩ := hs
      exact False.elim q
    | cont =>
      obtain ⟨_, _, _, q⟩ := hs
      exact False.elim q
end L2

namespace L2
open PySem PySem.Spec PyProof.Rows
section
variable {X : Cx} {x : Str} {p pos : Pos} {e : Expr} {es : List Expr} {t : TA} {id T : String} {r : List V → Hp → VK → Prop}

def tCB (r : List V → Hp → VK → Prop) (t : TA) : TE := fun σ H Q => t σ H fun vs H1 => r vs H1 Q
theorem pe_callB (hc : CallR X (.builtin id) r) (hg : Gl X x) (hm : X.mg x = none) (hv : bootBuiltins x = some (.builtin id)) (ha : PA X (e :: es) t) (hn : x ≠ "__name__" := by decide) (hdb : (x == ("__debug__" : Str)) = false := by decide)
    (he : starEach (e :: es) X.env = (false, eval e X.env) :: starEach es X.env := by rfl) (hpl : (backTo pos (starEach es X.env)).any (·.1) = false := by rfl) : PE X (.Call (.Name x p) (e :: es) [] pos) (tCB r t) := by
  with_unfolding_all
    intro pins s σ H Q I h
    refine wpAny_Call_Name_kw (ld_blt I hg hm hv ?_ hn hdb)
    exact PyProof.Rows.callWith_builtin1 (thn (ha pos pins s σ H _ I h) fun us s1 ⟨vs, H1, I1, r1, q1⟩ => hc pins s1 σ H1 vs us Q I1 r1 q1) he hpl
theorem pe_callTy (hc : CallR X (.type T) r) (hg : Gl X x) (hm : X.mg x = none) (hv : bootBuiltins x = some (.type T)) (ha : PA X (e :: es) t) (hn : x ≠ "__name__" := by decide) (hdb : (x == ("__debug__" : Str)) = false := by decide)
    (he : starEach (e :: es) X.env = (false, eval e X.env) :: starEach es X.env := by rfl) (hpl : (backTo pos (starEach es X.env)).any (·.1) = false := by rfl) : PE X (.Call (.Name x p) (e :: es) [] pos) (tCB r t) := by
  with_unfolding_all
    intro pins s σ H Q I h
    refine wpAny_Call_Name_kw (ld_blt I hg hm hv ?_ hn hdb)
    exact PyProof.Rows.callWith_type1 (thn (ha pos pins s σ H _ I h) fun us s1 ⟨vs, H1, I1, r1, q1⟩ => hc pins s1 σ H1 vs us Q I1 r1 q1) he hpl
end
end L2

namespace L2
open PySem PySem.Spec PyProof.Rows

/-! ### lists of pairs as tables -/
section
variable {κ : Type} [DecidableEq κ]
def valV (kvs : List (κ × V)) (k : κ) : Option V := (kvs.find? fun kv => decide (kv.1 = k)).map (·.2)
end


/-! ### a tracked dict, its keys ints and texts or tuples of these -/
section
variable {P : Program} {w : World} {H : Hp} {h : Heap} {a : Addr}
end

section
variable {X : Cx} {pins : List (Addr × Obj)} {σ : St} {H : Hp} {s : Shared} {a : Addr} {y v : V} {u r : Value} {o : Option V} {A : Around} {E : Value → Shared → Prop}

end

section
variable {X : Cx} {pins : List (Addr × Obj)} {σ : St} {H : Hp} {s : Shared} {a : Addr} {kvs : List (Key × V)} {k : Key} {u : Value} {A : Around} {E : Value → Shared → Prop}
end


/-! ### readings and rules -/
section
variable {X : Cx} {o i e value : Expr} {pos pos' tpos : Pos} {td ty tv : TE}
end


/-! ### displays -/
section
variable {X : Cx} {pos : Pos}
end

/-! ### methods -/
structure M1 (X : Cx) (o : Expr) (m : Str) (apos : Pos) (e : Expr) (cpos : Pos) : Prop where
  base : attributeBase o m X.env (eval o X.env) = eval o X.env
  few : ((backTo cpos (starEach [e] X.env)).all (fun x => !x.1) && (backToKw cpos (keywordEach [] X.env)).all (fun x => x.1.isSome)
    && decide (([e] : List Expr).length + ([] : List Keyword).length + (if ([] : List Keyword).isEmpty then 0 else 1) < 30)) = true
  line : (apos.endLine == cpos.line) = true
  trees : backTo cpos (starEach [e] X.env) = [(false, eval e X.env)]
structure M2 (X : Cx) (o : Expr) (m : Str) (apos : Pos) (e f : Expr) (cpos : Pos) : Prop where
  base : attributeBase o m X.env (eval o X.env) = eval o X.env
  few : ((backTo cpos (starEach [e, f] X.env)).all (fun x => !x.1) && (backToKw cpos (keywordEach [] X.env)).all (fun x => x.1.isSome)
    && decide (([e, f] : List Expr).length + ([] : List Keyword).length + (if ([] : List Keyword).isEmpty then 0 else 1) < 30)) = true
  line : (apos.endLine == cpos.line) = true
  trees : backTo cpos (starEach [e, f] X.env) = [(false, eval e X.env), (false, eval f X.env)]

section
variable {X : Cx} {pins : List (Addr × Obj)} {σ : St} {H : Hp} {s : Shared} {a : Addr} {y d : V} {u r : Value} {o : Option V} {A : Around} {E : Value → Shared → Prop}
end

section
variable {X : Cx} {o e f : Expr} {apos cpos : Pos} {td ty tx : TE}
end

/-! ### dict(d): a copy -/
section
variable {X : Cx} {pins : List (Addr × Obj)} {σ : St} {H : Hp} {s : Shared} {a : Addr} {kvs : List (Key × V)} {A : Around} {E : Value → Shared → Prop}
end


section
variable {X : Cx} {pins : List (Addr × Obj)} {σ : St} {H : Hp} {s : Shared} {a : Addr} {y : V} {u : Value} {A : Around} {E : Value → Shared → Prop}
end
end L2

namespace HT
open PySem PyProof.Rows

def lexLt : List Int → List Int → Bool
  | [], [] => false
  | [], _ :: _ => true
  | _ :: _, [] => false
  | x :: xs, y :: ys => if x = y then lexLt xs ys else decide (x < y)
section
open PySem.SeqAt
open PySem.AutoSeq1 (wpAny_loadPart')
open PySem.MeetsSeq PySem.MeetsSeq2 PySem.MeetsSeq3

end

section
variable {prog : Program} {w : World} {A : Around} {E : Value → Shared → Prop} {s : Shared}

theorem cat_tup {t b : Addr} {vs ws : List Value} {Q : Value → Shared → Prop} (ht : IsTup s.heap t vs.toArray) (hb : IsTup s.heap b ws.toArray) (hv : vs ≠ [])
    (h1 : ws = [] → Q (.ref t) s) (h2 : ws ≠ [] → Q (.ref s.heap.objs.size) { s with heap := s.heap.push { cls := .type "tuple", data := .seq (vs ++ ws).toArray } })
    (hsz : vs.length + ws.length ≤ sizeLine) : wpAny (model prog w) A (binaryOp .Add (.ref t) (.ref b)) Q E s := by
  obtain ⟨⟨cls, dd, data, sl⟩, ho, hc, n, hd⟩ := id ht
  obtain ⟨⟨cls2, dd2, data2, sl2⟩, ho2, hc2, n2, hd2⟩ := id hb
  simp only at hc hd hc2 hd2
  subst hc hd hc2 hd2
  have e : vs.toArray ++ ws.toArray = (vs ++ ws).toArray := by simp
  by_cases hw : ws = []
  · exact concat_meets ⟨_, ho, rfl⟩ ⟨_, ho2, rfl⟩ noFill_tuple_add seq_tuple_add PySem.F.slot_tuple_add PySem.F.entry_tuple_add (PySem.F.args_tuple_add_2 _ _)
      (tuple_addW1 t b vs.toArray ws.toArray n n2 dd dd2 sl sl2 (by simpa using hv) (by simp [hw])) ⟨ho, ho2, h1 hw⟩
  · refine concat_meets ⟨_, ho, rfl⟩ ⟨_, ho2, rfl⟩ noFill_tuple_add seq_tuple_add PySem.F.slot_tuple_add PySem.F.entry_tuple_add (PySem.F.args_tuple_add_2 _ _)
      (tuple_addW2 t b vs.toArray ws.toArray n n2 dd dd2 sl sl2 (by simpa using hv) (by simpa using hw) (by rw [List.size_toArray, List.size_toArray]; exact hsz)) ⟨ho, ho2, ?_⟩
    rw [e]
    exact h2 hw

/-! ### t[a:b], not the whole -/
def sIx (n d : Nat) : Option Int → Nat
  | none => d
  | some v => if v < 0 then (v + (n : Int)).toNat else min v.toNat n
theorem sIx_none (n d : Nat) : sIx n d none = d := rfl
theorem sIx_nat (n d k : Nat) : sIx n d (some (k : Int)) = min k n := by
  show (if (k : Int) < 0 then ((k : Int) + (n : Int)).toNat else min (k : Int).toNat n) = min k n
  rw [if_neg (by omega), Int.toNat_natCast]
theorem sIx_le (n d : Nat) (hd : d ≤ n) (o : Option Int) : sIx n d o ≤ n := by
  cases o with
  | none => exact hd
  | some v =>
    show (if v < 0 then (v + (n : Int)).toNat else min v.toNat n) ≤ n
    by_cases hv : v < 0
    · rw [if_pos hv]; omega
    · rw [if_neg hv]; exact Nat.min_le_right _ _
theorem clip_eq (v : Int) (n d : Nat) : (if v < 0 then max (v + (n : Int)) 0 else min v (n : Int)) = ((sIx n d (some v) : Nat) : Int) := by
  show (if v < 0 then max (v + (n : Int)) 0 else min v (n : Int)) = (((if v < 0 then (v + (n : Int)).toNat else min v.toNat n) : Nat) : Int)
  by_cases hv : v < 0
  · simp only [if_pos hv]; omega
  · simp only [if_neg hv]; omega
theorem adjust_gen (lo hi : Option Int) (n : Nat) : Builtin.Slice.sliceAdjust lo hi 1 (n : Int) = (((sIx n 0 lo : Nat) : Int), ((sIx n n hi : Nat) : Int)) := by
  have h1 : ¬ ((1 : Int) < 0) := by omega
  unfold Builtin.Slice.sliceAdjust
  simp only [h1, if_false]
  refine Prod.ext ?_ ?_
  · cases lo with
    | none => rfl
    | some v => exact clip_eq v n 0
  · cases hi with
    | none => rfl
    | some v => exact clip_eq v n n
theorem places_gen (i j : Nat) : Builtin.Slice.slicePlaces (i : Int) (j : Int) 1 = j - i := by
  unfold Builtin.Slice.slicePlaces
  have h1 : (1 : Int) > 0 := by omega
  simp only [h1, if_true, Int.ediv_one]
  split <;> omega
theorem slicePart_ {v : Value} {o : Option Int} {Q : Option Int → Shared → Prop} (p : IsPart v o) (h : Q o s) : wpAny (model prog w) A (Builtin.Slice.slicePartIndex v) Q E s := by
  cases p with
  | none => exact slicePart_none h
  | int i t => exact slicePart_int h
theorem sliceApplied_gen {sl : Addr} {vl vu : Value} {lo hi : Option Int} {n : Nat} {Q : Int × Int × Nat → Shared → Prop} (hs : s.heap.IsSliceOf sl vl vu .none) (pl : IsPart vl lo) (pu : IsPart vu hi)
    (h : Q (((sIx n 0 lo : Nat) : Int), 1, sIx n n hi - sIx n 0 lo) s) : wpAny (model prog w) A (Builtin.Slice.sliceApplied (.ref sl) (pure (n : Int))) Q E s := by
  obtain ⟨os, hos, hcs, hds⟩ := id hs
  unfold Builtin.Slice.sliceApplied Builtin.Slice.sliceFields
  refine wpAny_bind (wpAny_bind (wpAny_field hos hds (x := vl) rfl (wpAny_bind (wpAny_field hos hds (x := vu) rfl (wpAny_bind (wpAny_field hos hds (x := .none) rfl (wpAny_pure ?_)))))))
  refine wpAny_bind (slicePart_none ?_)
  show wpAny _ _ (if ((1 : Int) == 0) = true then _ else _) _ _ s
  rw [if_neg (by decide)]
  refine wpAny_bind (slicePart_ pl (wpAny_bind (slicePart_ pu (wpAny_bind (wpAny_pure ?_)))))
  show wpAny _ _ (match Builtin.Slice.sliceAdjust lo hi 1 (n : Int) with | (lo, hi) => pure (lo, (1 : Int), Builtin.Slice.slicePlaces lo hi 1)) _ _ s
  rw [adjust_gen lo hi n]
  show wpAny _ _ (pure (((sIx n 0 lo : Nat) : Int), (1 : Int), Builtin.Slice.slicePlaces ((sIx n 0 lo : Nat) : Int) ((sIx n n hi : Nat) : Int) 1)) _ _ s
  rw [places_gen]
  exact wpAny_pure h
theorem pick_gen (xs : Array Value) (i k : Nat) : ((List.range k).filterMap fun (m : Nat) => xs[((i : Int) + (m : Int) * 1).toNat]?).toArray = ((xs.toList.drop i).take k).toArray := by
  have e : (fun (m : Nat) => xs[((i : Int) + (m : Int) * 1).toNat]?) = fun m => xs[i + m]? := by
    funext m
    have : ((i : Int) + (m : Int) * 1).toNat = i + m := by omega
    rw [this]
  rw [e]
  have := pick_run xs i k
  rw [List.filterMap_map] at this
  have e2 : ((fun x => xs[x]?) ∘ fun x => i + x) = fun m => xs[i + m]? := rfl
  rw [e2] at this
  rw [this]

theorem getItem_tuple_cut {t sl : Addr} {items : Array Value} {vl vu : Value} {lo hi : Option Int} {Q : Value → Shared → Prop} (ht : IsTup s.heap t items) (hs : s.heap.IsSliceOf sl vl vu .none) (pl : IsPart vl lo) (pu : IsPart vu hi)
    (hw : ¬ (sIx items.size 0 lo = 0 ∧ sIx items.size items.size hi = items.size))
    (h : Q (.ref s.heap.objs.size) { s with heap := s.heap.push { cls := .type "tuple", data := .seq ((items.toList.drop (sIx items.size 0 lo)).take (sIx items.size items.size hi - sIx items.size 0 lo)).toArray } })
    (hsz : items.size ≤ sizeLine) : wpAny (model prog w) A (getItem (.ref t) (.ref sl)) Q E s := by
  have htake : sizeOk (.seq ((items.toList.drop (sIx items.size 0 lo)).take (sIx items.size items.size hi - sIx items.size 0 lo)).toArray) := by
    show ((items.toList.drop (sIx items.size 0 lo)).take (sIx items.size items.size hi - sIx items.size 0 lo)).toArray.size ≤ sizeLine
    rw [List.size_toArray, List.length_take, List.length_drop, Array.length_toList]
    omega
  have hj : sIx items.size items.size hi ≤ items.size := sIx_le _ _ (Nat.le_refl _) hi
  obtain ⟨os, hos, hcs, hds⟩ := id hs
  have hTs : s.TypeIs (.ref sl) "slice" := ⟨os, hos, hcs⟩
  unfold getItem
  try with_reducible refine wpAny_holding ?_
  first | refine wpAny_bind (wpAny_pure ?_) | skip
  refine wpAny_bind (wpAny_sequenceKey ht.typeIs (by decide) ?_)
  refine wpAny_bind (wpAny_callSpecial?_slot (name := Str.ofString "__getitem__") ht.typeIs PyProof.Rows.slot_tuple_getitem
    (wpAny_call_entry PyProof.Rows.slot_tuple_getitem ht.typeIs entry_tuple_getitem ?_ (args_tuple_getitem _ _)))
  show wpAny _ _ (Builtin.Tuple.tupleItemsOf (.ref t) >>= _) _ _ s
  refine wpAny_bind (tupleItemsOf_ ht ?_)
  refine wpAny_bind (wpAny_typeOf hTs ?_)
  rw [if_pos (by decide)]
  refine wpAny_bind (sliceApplied_gen hs pl pu ?_)
  have hno : ¬ ((((sIx items.size 0 lo : Nat) : Int) == 0 && (1 : Int) == 1 && (sIx items.size items.size hi - sIx items.size 0 lo) == items.size) = true) := by
    intro q
    rw [Bool.and_eq_true, Bool.and_eq_true] at q
    have q1 : ((sIx items.size 0 lo : Nat) : Int) = 0 := eq_of_beq q.1.1
    have q2 : sIx items.size items.size hi - sIx items.size 0 lo = items.size := eq_of_beq q.2
    exact hw ⟨by omega, by omega⟩
  show wpAny _ _ (if (((sIx items.size 0 lo : Nat) : Int) == 0 && (1 : Int) == 1 && (sIx items.size items.size hi - sIx items.size 0 lo) == items.size) = true then _ else _) _ _ s
  rw [if_neg hno, pick_gen]
  first
    | exact wpAny_bind (m := Builtin.Tuple.tupleExact _) (wpAny_newObj_type (wpAny_pure ⟨_, rfl, wpAny_pure h⟩) htake)
    | exact wpAny_bind (m := Builtin.Tuple.tupleExact _) (wpAny_newObj_type (wpAny_bind (wpAny_pure (wpAny_pure ⟨_, rfl, wpAny_pure h⟩))) htake)
    | exact wpAny_bind (wpAny_bind (m := Builtin.Tuple.tupleExact _) (wpAny_newObj_type (wpAny_pure (wpAny_pure ⟨_, rfl, wpAny_pure h⟩)) htake))
    | exact wpAny_bind (wpAny_bind (m := Builtin.Tuple.tupleExact _) (wpAny_newObj_type (wpAny_pure ⟨_, rfl, wpAny_pure h⟩) htake))
end
end HT

namespace L2
open PySem PySem.Spec PyProof.Rows

/-! ### the parts of a slice -/
abbrev TO := St → Hp → (Option Int → Hp → Prop) → Prop
def PO (X : Cx) (e : Option Expr) (t : TO) : Prop :=
  ∀ (pins : List (Addr × Obj)) (s : Shared) (σ : St) (H : Hp) (Q : Option Int → Hp → Prop), Inv X pins σ H s → t σ H Q →
    wpAny (model X.prog X.w) X.A (evalPart e X.env) (fun u s' => ∃ o H', Inv X pins σ H' s' ∧ IsPart u o ∧ Q o H') X.xe s
def tNoPart : TO := fun _ H Q => Q none H
def tPart (t : TE) : TO := fun σ H Q => t σ H fun x H1 => ∃ i, x = .int i ∧ Q (some i) H1

section
variable {X : Cx} {e : Expr} {te : TE} {lo hi : Option Expr} {tl th : TO} {pos p2 : Pos}

theorem po_none : PO X none tNoPart := by
  intro pins s σ H Q I h
  rw [evalPart_none]
  exact wpAny_pure ⟨none, H, I, .none, h⟩
theorem po_some (h : PE X e te) : PO X (some e) (tPart te) := by
  with_unfolding_all
    intro pins s σ H Q I hw
    rw [evalPart_some]
    refine thn (h pins s σ H _ I hw) fun u s1 ⟨x, H1, I1, r1, q1⟩ => ?_
    obtain ⟨i, rfl, q⟩ := q1
    obtain ⟨t, rfl⟩ := r1
    exact ⟨some i, H1, I1, .int i t, q⟩

def SlR (X : Cx) (r : V → Option Int → Option Int → Hp → VK → Prop) : Prop :=
  ∀ (pins : List (Addr × Obj)) (s : Shared) (σ : St) (H : Hp) (x : V) (v vl vu : Value) (lo hi : Option Int) (sl : Addr) (Q : VK), Inv X pins σ H s → RelV x v → s.heap.IsSliceOf sl vl vu .none → IsPart vl lo → IsPart vu hi → r x lo hi H Q →
    ∃ T id, typeLookup (.type T) "__getitem__" = pure (some (.builtin id)) ∧ s.TypeIs v T ∧ wpAny (model X.prog X.w) X.A (getItem v (.ref sl)) (EP X pins σ Q) X.xe s
def tSl (r : V → Option Int → Option Int → Hp → VK → Prop) (te : TE) (tl th : TO) : TE := fun σ H Q => te σ H fun x H1 => tl σ H1 fun l H2 => th σ H2 fun u H3 => r x l u H3 Q
theorem pe_slice {r : V → Option Int → Option Int → Hp → VK → Prop} (hr : SlR X r) (he : PE X e te) (hl : PO X lo tl) (hu : PO X hi th) : PE X (.Subscript e (.Slice lo hi none p2) pos) (tSl r te tl th) := by
  with_unfolding_all
    intro pins s σ H Q I h
    refine Subscript_ (thn (he pins s σ H _ I h) fun v s1 ⟨x, H1, I1, r1, q1⟩ => ?_)
    refine wpAny_Slice (thn (hl pins s1 σ H1 _ I1 q1) fun vl s2 ⟨l, H2, I2, pl, q2⟩ => thn (hu pins s2 σ H2 _ I2 q2) fun vu s3 ⟨u, H3, I3, pu, q3⟩ => ?_)
    rw [evalPart_none]
    refine wpAny_pure ?_
    have I4 : Inv X pins σ H3 { s3 with heap := s3.heap.push { cls := .type "slice", data := .fields #[vl, vu, .none] } } := I3.kept (t' := s3.toks) fun b ob q => Heap.get?_push_of_some _ q
    obtain ⟨T, id, hT, ht, hg⟩ := hr pins { s3 with heap := s3.heap.push { cls := .type "slice", data := .fields #[vl, vu, .none] } } σ H3 x v vl vu l u s3.heap.objs.size Q I4 r1 (Heap.IsSliceOf.new ..) pl pu q3
    show wpAny (model X.prog X.w) X.A (subscriptTail e (.Slice lo hi none p2) v (.ref s3.heap.objs.size)) (EP X pins σ Q) X.xe { s3 with heap := s3.heap.push { cls := .type "slice", data := .fields #[vl, vu, .none] } }
    exact tail_any (ops := [.ref s3.heap.objs.size, v]) ht hT hg (by with_unfolding_all rfl)

def cutV (xs : List V) (lo hi : Option Int) : List V := (xs.drop (HT.sIx xs.length 0 lo)).take (HT.sIx xs.length xs.length hi - HT.sIx xs.length 0 lo)
theorem cutV_length (xs : List V) (lo hi : Option Int) : (cutV xs lo hi).length ≤ xs.length := by
  unfold cutV
  rw [List.length_take, List.length_drop]
  omega
def rSlT (K : PySem.W.Frag) : V → Option Int → Option Int → Hp → VK → Prop := fun x lo hi H Q => ∃ a xs, x = .ref a ∧ SqT K H a xs ∧
  ¬ (HT.sIx xs.length 0 lo = 0 ∧ HT.sIx xs.length xs.length hi = xs.length) ∧ ∀ p, H p = none → Q (.ref p) (upd H p (.tup (cutV xs lo hi)))
theorem sl_tup : SlR X (rSlT X.K) := by
  intro pins s σ H x v vl vu lo hi sl Q I rx hs pl pu h
  obtain ⟨a, xs, rfl, hx, hw, q⟩ := h
  cases rx
  obtain ⟨its, r, ht, hz⟩ := I.tuple hx
  have hlen : its.toArray.size = xs.length := by rw [List.size_toArray]; exact r.length.symm
  refine ⟨"tuple", _, PyProof.Rows.slot_tuple_getitem.lookup, ht.typeIs, ?_⟩
  refine HT.getItem_tuple_cut ht hs pl pu (by rw [hlen]; exact hw) ?_ (by rw [hlen]; exact hz)
  rw [hlen]
  refine ⟨.ref s.heap.objs.size, _, I.laid (t' := s.toks) (o := .tup (cutV xs lo hi)) (fun b ob q => Heap.get?_push_of_some _ q) (Nat.le_refl _) ?_, rfl, q _ (I.hok.fresh (Nat.le_refl _))⟩
  exact ⟨Nat.le_trans (cutV_length xs lo hi) hz, _, (r.drop (HT.sIx xs.length 0 lo)).take (HT.sIx xs.length xs.length hi - HT.sIx xs.length 0 lo), IsTup.new _ _⟩

/-! ### t < u, t + u -/
def rCatT (K : PySem.W.Frag) : R2 := fun x y H Q => ∃ a b xs ys, x = .ref a ∧ y = .ref b ∧ SqT K H a xs ∧ SqT K H b ys ∧ xs ≠ [] ∧ xs.length + ys.length ≤ sizeLine ∧
  (ys = [] → Q (.ref a) H) ∧ (ys ≠ [] → ∀ p, H p = none → Q (.ref p) (upd H p (.tup (xs ++ ys))))
theorem Vals.nil_iff {xs : List V} {us : List Value} (r : Vals xs us) : us = [] ↔ xs = [] := by
  cases r with
  | nil => simp
  | cons _ _ => simp
theorem op_catT : OpR X (binaryOp .Add) (rCatT X.K) := by
  intro pins s σ H x y v u Q I rx ry h
  obtain ⟨a, b, xs, ys, rfl, rfl, ha, hb, hx, hz, q1, q2⟩ := h
  cases rx
  cases ry
  obtain ⟨its, r1, p1, _⟩ := I.tuple ha
  obtain ⟨its2, r2, p2, _⟩ := I.tuple hb
  refine HT.cat_tup p1 p2 (fun z => hx (r1.nil_iff.mp z)) (fun z => ⟨.ref a, H, I, rfl, q1 (r2.nil_iff.mp z)⟩) (fun z => ?_) (by rw [← r1.length, ← r2.length]; exact hz)
  refine ⟨.ref s.heap.objs.size, _, I.laid (t' := s.toks) (o := .tup (xs ++ ys)) (fun b ob q => Heap.get?_push_of_some _ q) (Nat.le_refl _) ?_, rfl, q2 (fun w => z (r2.nil_iff.mpr w)) _ (I.hok.fresh (Nat.le_refl _))⟩
  exact ⟨by rw [List.length_append]; exact hz, _, r1.append r2, IsTup.new _ _⟩
end
end L2

namespace L2
open PySem PySem.Spec PyProof.Rows

/-! ### places -/
def ixN (n : Nat) (i : Int) : Option Nat := if 0 ≤ i then (if i < n then some i.toNat else none) else if -(n : Int) ≤ i then some (i + n).toNat else none
def atI {α : Type} (xs : List α) (i : Int) : Option α := (ixN xs.length i).bind fun j => xs[j]?
theorem ixN_seq {n : Nat} {i : Int} {j : Nat} (h : ixN n i = some j) : seqIndex? i n = some j ∧ j < n ∧ -(n : Int) ≤ i ∧ i < n := by
  unfold ixN at h
  by_cases h0 : 0 ≤ i
  · rw [if_pos h0] at h
    by_cases h1 : i < n
    · rw [if_pos h1] at h
      have e : i.toNat = j := Option.some.inj h
      exact ⟨by rw [seqIndex_of h0 h1, e], by omega, by omega, h1⟩
    · rw [if_neg h1] at h; cases h
  · rw [if_neg h0] at h
    by_cases h1 : -(n : Int) ≤ i
    · rw [if_pos h1] at h
      have e : (i + n).toNat = j := Option.some.inj h
      exact ⟨by rw [seqIndex_neg (by omega) h1, e], by omega, h1, by omega⟩
    · rw [if_neg h1] at h; cases h
theorem atI_get {α : Type} {xs : List α} {i : Int} {v : α} (h : atI xs i = some v) : ∃ j, seqIndex? i xs.length = some j ∧ xs[j]? = some v ∧ j < xs.length ∧ -(xs.length : Int) ≤ i ∧ i < xs.length := by
  unfold atI at h
  cases e : ixN xs.length i with
  | none => rw [e] at h; cases h
  | some j =>
    rw [e] at h
    obtain ⟨h1, h2, h3, h4⟩ := ixN_seq e
    exact ⟨j, h1, h, h2, h3, h4⟩
theorem atI_nat {α : Type} {xs : List α} {j : Nat} {v : α} (h : xs[j]? = some v) : atI xs (j : Int) = some v := by
  have hj : j < xs.length := (List.getElem?_eq_some_iff.mp h).1
  have e : ixN xs.length (j : Int) = some j := by
    unfold ixN
    rw [if_pos (by omega), if_pos (by omega)]; simp
  unfold atI; rw [e]; exact h
/-! ### what may be subscripted -/
def PlainIx (b : Expr) : Prop := ∀ o i, subscripted b false o i = operate [o, i] (getItem o i)
def IxR (X : Cx) (r : R2) : Prop :=
  ∀ (value slice : Expr) (pins : List (Addr × Obj)) (s : Shared) (σ : St) (H : Hp) (x y : V) (v u : Value) (Q : VK), Inv X pins σ H s → RelV x v → RelV y u → r x y H Q →
    subscripted slice false v u = operate [v, u] (getItem v u) → wpAny (model X.prog X.w) X.A (subscriptTail value slice v u) (EP X pins σ Q) X.xe s
def MtR (X : Cx) (id : String) (r : V → List V → Hp → VK → Prop) : Prop :=
  ∀ (pins : List (Addr × Obj)) (s : Shared) (σ : St) (H : Hp) (x : V) (xs : List V) (v : Value) (us : List Value) (Q : VK), Inv X pins σ H s → RelV x v → Vals xs us → r x xs H Q →
    wpAny (model X.prog X.w) X.A (call (.builtin id) (v :: us)) (EP X pins σ Q) X.xe s
section
variable {X : Cx} {a b : Expr} {ta tb : TE} {pos : Pos}
theorem pe_ix {r : R2} (hr : IxR X r) (ha : PE X a ta) (hb : PE X b tb) (hs : PlainIx b) : PE X (.Subscript a b pos) (tOp r ta tb) := by
  with_unfolding_all
    intro pins s σ H Q I h
    exact Subscript_ (binT ha hb I h fun v u s2 x y H2 I2 rx ry q => hr a b pins s2 σ H2 x y v u Q I2 rx ry q (hs _ _))

def rIxL (K : PySem.W.Frag) : R2 := fun x y H Q => ∃ p xs i v, x = .ref p ∧ y = .int i ∧ SqL K H p xs ∧ atI xs i = some v ∧ Q v H
def rIxT (K : PySem.W.Frag) : R2 := fun x y H Q => ∃ p xs i v, x = .ref p ∧ y = .int i ∧ SqT K H p xs ∧ atI xs i = some v ∧ Q v H
def rIxS : R2 := fun x y H Q => ∃ z i c, x = .str z ∧ y = .int i ∧ z.length ≤ sizeLine ∧ atI z.cps.toList i = some c ∧ Q (.str ⟨#[c]⟩) H
theorem ix_list : IxR X (rIxL X.K) := by
  intro value slice pins s σ H x y v u Q I rx ry h hs
  obtain ⟨p, xs, i, z, rfl, rfl, hq, he, q⟩ := h
  cases rx
  obtain ⟨t, rfl⟩ := ry
  obtain ⟨its, r, pl, hz⟩ := I.list hq
  obtain ⟨j, h1, h2, h3, h4, h5⟩ := atI_get he
  obtain ⟨w, ew, rw'⟩ := r.get h2
  have hl := r.length
  have hn := line63
  have fin : EP X pins σ Q w s := ⟨z, H, I, rw', q⟩
  by_cases h0 : 0 ≤ i
  · have hj : i.toNat = j := by
      rw [seqIndex_of h0 h5] at h1
      exact Option.some.inj h1
    exact item_listR pl.isList h0 (by omega) (by rw [hj]; simpa using ew) fin hs
  · have hj : (i + (its.toArray.size : Int)).toNat = j := by
      rw [seqIndex_neg (by omega) h4] at h1
      rw [List.size_toArray, ← hl]
      exact Option.some.inj h1
    exact subscriptTail_builtinR (x := w) pl.isList.typeIs slot_list_getitem.lookup
      (wpAny_getItem_list_neg (Q := fun r s' => r = w ∧ EP X pins σ Q r s') pl.isList (by omega) (by rw [List.size_toArray] <;> omega) (by omega) (by rw [hj]; simpa using ew) ⟨rfl, fin⟩) hs
theorem ix_tup : IxR X (rIxT X.K) := by
  intro value slice pins s σ H x y v u Q I rx ry h hs
  obtain ⟨p, xs, i, z, rfl, rfl, hq, he, q⟩ := h
  cases rx
  obtain ⟨t, rfl⟩ := ry
  obtain ⟨its, r, pl, hz⟩ := I.tuple hq
  obtain ⟨j, h1, h2, h3, h4, h5⟩ := atI_get he
  obtain ⟨w, ew, rw'⟩ := r.get h2
  have hl := r.length
  have hn := line63
  have fin : EP X pins σ Q w s := ⟨z, H, I, rw', q⟩
  exact subscriptTail_builtinR (x := w) pl.typeIs slot_tuple_getitem.lookup
    (getItem_tuple (j := j) (Q := fun r s' => r = w ∧ EP X pins σ Q r s') pl (by omega) (by omega) (by rw [List.size_toArray, ← hl]; exact h1) (by simpa using ew) ⟨rfl, fin⟩) hs
theorem ix_str : IxR X rIxS := by
  intro value slice pins s σ H x y v u Q I rx ry h hs
  obtain ⟨z, i, c, rfl, rfl, hz, he, q⟩ := h
  obtain ⟨t, rfl⟩ := rx
  obtain ⟨t', rfl⟩ := ry
  obtain ⟨j, h1, h2, h3, h4, h5⟩ := atI_get he
  have hl : z.cps.toList.length = z.length := by simp [Str.length]
  rw [hl] at h1 h4 h5
  have hn := line63
  exact tail_any (typeIs_str s z t) slot_str_getitem.lookup (getItem_str (c := c) (by
    have e1 : decide (i < -(2 ^ 63 : Int)) = false := decide_eq_false (by omega)
    have e2 : decide (i ≥ 2 ^ 63) = false := decide_eq_false (by omega)
    rw [e1, e2, Bool.or_false]) (by rw [h1]; simpa using h2) ⟨.str ⟨#[c]⟩, H, I.tok _, ⟨_, rfl⟩, q⟩) hs
/-! ### xs[i] = v, any sign -/
/-! ### slices -/
theorem slice_bounds (lo hi : Option Int) (n : Nat) : (sliceBounds lo hi none n).1 = ((HT.sIx n 0 lo : Nat) : Int) ∧ (sliceBounds lo hi none n).2.1 = ((HT.sIx n n hi : Nat) : Int) ∧ (sliceBounds lo hi none n).2.2 = 1 := by
  refine ⟨?_, ?_, rfl⟩
  · cases lo with
    | none => simp [sliceBounds, HT.sIx]
    | some i =>
      simp only [sliceBounds, HT.sIx, Option.getD_none, show (1 : Int) > 0 by decide, if_true]
      by_cases h : i < 0
      · simp only [h, if_true] <;> omega
      · simp only [h, if_false] <;> omega
  · cases hi with
    | none => simp [sliceBounds, HT.sIx]
    | some i =>
      simp only [sliceBounds, HT.sIx, Option.getD_none, show (1 : Int) > 0 by decide, if_true]
      by_cases h : i < 0
      · simp only [h, if_true] <;> omega
      · simp only [h, if_false] <;> omega
theorem slicePick_cut (its : List Value) (lo hi : Option Int) : slicePick its.toArray lo hi none = ((its.drop (HT.sIx its.length 0 lo)).take (HT.sIx its.length its.length hi - HT.sIx its.length 0 lo)).toArray := by
  obtain ⟨h1, h2, h3⟩ := slice_bounds lo hi its.toArray.size
  unfold slicePick
  rw [h1, h2, h3]
  simp only [sliceRange_one, pick_run, List.size_toArray] <;> rfl
def rSlL (K : PySem.W.Frag) : V → Option Int → Option Int → Hp → VK → Prop := fun x lo hi H Q => ∃ a xs, x = .ref a ∧ SqL K H a xs ∧ ∀ p, H p = none → Q (.ref p) (upd H p (.lst (cutV xs lo hi)))
theorem sl_list : SlR X (rSlL X.K) := by
  intro pins s σ H x v vl vu lo hi sl Q I rx hs pl pu h
  obtain ⟨a, xs, rfl, hx, q⟩ := h
  cases rx
  obtain ⟨its, r, ht, hz⟩ := I.list hx
  have hlen := r.length
  refine ⟨"list", _, slot_list_getitem.lookup, ht.isList.typeIs, ?_⟩
  refine wpAny_getItem_list_slice ht.isList hs pl pu .none (by simp) ?_ (by rw [List.size_toArray] <;> omega)
  rw [slicePick_cut, ← hlen]
  refine ⟨.ref s.heap.objs.size, _, I.laid (t' := s.toks) (o := .lst (cutV xs lo hi)) (fun b ob q => Heap.get?_push_of_some _ q) (Nat.le_refl _) ?_, rfl, q _ (I.hok.fresh (Nat.le_refl _))⟩
  exact ⟨Nat.le_trans (cutV_length xs lo hi) hz, _, 0, (r.drop (HT.sIx xs.length 0 lo)).take (HT.sIx xs.length xs.length hi - HT.sIx xs.length 0 lo), Heap.get?_push_size _ rfl⟩

/-! ### in, not in: flat items -/
def flatV : V → Bool
  | .non => true
  | .bl _ => true
  | .int _ => true
  | .str _ => true
  | _ => false
def eqV : V → V → Bool
  | .non, .non => true
  | .bl a, .bl b => a == b
  | .bl a, .int b => (if a then 1 else 0) == b
  | .int a, .bl b => a == (if b then 1 else 0)
  | .int a, .int b => a == b
  | .str a, .str b => a == b
  | _, _ => false
theorem eqAt_V {A : Around} {s : Shared} {y x : V} {u v : Value} (ry : RelV y u) (rx : RelV x v) (fy : flatV y = true) (fx : flatV x = true) : SeqAt.EqAt A s u v (eqV y x) := by
  cases y with
  | non =>
    cases ry
    cases x with
    | non => cases rx; exact SeqAt.EqAt.same _
    | bl b => cases rx; exact SeqAt.EqAt.none_bool b
    | int b => obtain ⟨t, rfl⟩ := rx; exact SeqAt.EqAt.none_int b t
    | str b => obtain ⟨t, rfl⟩ := rx; exact SeqAt.EqAt.none_str b t
    | _ => exact absurd (show false = true from fx) Bool.false_ne_true
  | bl a =>
    cases ry
    cases x with
    | non => cases rx; exact SeqAt.EqAt.bool_none a
    | bl b => cases rx; exact SeqAt.EqAt.bool_bool a b
    | int b => obtain ⟨t, rfl⟩ := rx; exact SeqAt.EqAt.bool_int a b t
    | str b => obtain ⟨t, rfl⟩ := rx; exact SeqAt.EqAt.bool_str a b t
    | _ => exact absurd (show false = true from fx) Bool.false_ne_true
  | int a =>
    obtain ⟨t', rfl⟩ := ry
    cases x with
    | non => cases rx; exact SeqAt.EqAt.int_none a t'
    | bl b => cases rx; exact SeqAt.EqAt.int_bool a t' b
    | int b => obtain ⟨t, rfl⟩ := rx; exact SeqAt.EqAt.int_int a t' b t
    | str b => obtain ⟨t, rfl⟩ := rx; exact SeqAt.EqAt.int_str a t' b t
    | _ => exact absurd (show false = true from fx) Bool.false_ne_true
  | str a =>
    obtain ⟨t', rfl⟩ := ry
    cases x with
    | non => cases rx; exact SeqAt.EqAt.str_none a t'
    | bl b => cases rx; exact SeqAt.EqAt.str_bool a t' b
    | int b => obtain ⟨t, rfl⟩ := rx; exact SeqAt.EqAt.str_int a t' b t
    | str b => obtain ⟨t, rfl⟩ := rx; exact SeqAt.EqAt.str_str a t' b t
    | _ => exact absurd (show false = true from fx) Bool.false_ne_true
  | _ => exact absurd (show false = true from fy) Bool.false_ne_true
/-! ### len, list(x), tuple(x) of any list or tuple that is read -/
theorem call_len_seq : CallR X (.builtin "len") (fun xs H Q => ∃ p ys, xs = [.ref p] ∧ (SqL X.K H p ys ∨ SqT X.K H p ys) ∧ Q (.int ys.length) H) := by
  intro pins s σ H xs us Q I r h
  obtain ⟨p, ys, rfl, hq, q⟩ := h
  obtain ⟨u, rfl, rx⟩ := vals1 r
  cases rx
  have hn := line63
  rcases hq with hq | hq
  · obtain ⟨its, r', pl, hz⟩ := I.list hq
    have hlen := r'.length
    exact Calls.call_len_list pl.isList (by simp only [List.size_toArray] <;> omega) ⟨.int ys.length, H, I.tok _, ⟨s.toks + 1, by rw [List.size_toArray, hlen]⟩, q⟩
  · obtain ⟨its, r', pl, hz⟩ := I.tuple hq
    have hlen := r'.length
    exact len_tuple pl (by simp only [List.size_toArray] <;> omega) ⟨.int ys.length, H, I.tok _, ⟨s.toks + 1, by rw [List.size_toArray, hlen]⟩, q⟩
theorem call_len_str : CallR X (.builtin "len") (fun xs H Q => ∃ z, xs = [.str z] ∧ z.length ≤ sizeLine ∧ Q (.int z.length) H) := by
  intro pins s σ H xs us Q I r h
  obtain ⟨z, rfl, hz, q⟩ := h
  obtain ⟨u, rfl, t, rfl⟩ := vals1 r
  have hn := line63
  exact len_str (by omega) ⟨.int z.length, H, I.tok _, ⟨_, rfl⟩, q⟩
theorem call_list_of : CallR X (.type "list") (fun xs H Q => ∃ p ys, xs = [.ref p] ∧ (SqL X.K H p ys ∨ SqT X.K H p ys) ∧ ∀ l, H l = none → Q (.ref l) (upd H l (.lst ys))) := by
  intro pins s σ H xs us Q I r h
  obtain ⟨p, ys, rfl, hq, q⟩ := h
  obtain ⟨u, rfl, rx⟩ := vals1 r
  cases rx
  have fin : ∀ (its : List Value), Vals ys its → ys.length ≤ sizeLine → ∀ (h' : Heap) (c' : Nat), (∀ b o', s.heap.get? b = some o' → h'.get? b = some o') →
      h'.get? s.heap.objs.size = some { cls := .type "list", dict := none, data := .seq its.toArray c', slots := #[] } → EP X pins σ Q (.ref s.heap.objs.size) { s with heap := h' } := fun its r' hz h' c' kp e =>
    ⟨.ref s.heap.objs.size, _, I.laid (t' := s.toks) kp (Nat.le_refl _) (show ObjOk X.prog X.w _ h' _ (.lst ys) from ⟨hz, its, c', r', e⟩), rfl, q _ (I.hok.fresh (Nat.le_refl _))⟩
  rcases hq with hq | hq
  · obtain ⟨its, r', pl, hz⟩ := I.list hq
    have hlen := r'.length
    obtain ⟨o, ho, hc, n, hd⟩ := pl.isList
    exact call_list_seq p (.inl rfl) ho hc hd (fun h' c' kp e => fin its r' hz h' c' kp e) (by simp only [List.size_toArray] <;> omega)
  · obtain ⟨its, r', pl, hz⟩ := I.tuple hq
    have hlen := r'.length
    obtain ⟨o, ho, hc, n, hd⟩ := pl
    exact call_list_seq p (.inr rfl) ho hc hd (fun h' c' kp e => fin its r' hz h' c' kp e) (by simp only [List.size_toArray] <;> omega)
/-! ### the call of a builtin's method: o.m(..) -/
def tyV (K : PySem.W.Frag) (T : String) (x : V) (H : Hp) : Prop := match x with
  | .str _ => T = "str"
  | .int _ => T = "int"
  | .ref p => (T = "list" ∧ ∃ xs, SqL K H p xs) ∨ (T = "tuple" ∧ ∃ o, K.lookup p = some o ∧ o.cls = .type "tuple" ∧ o.dict = none) ∨
      (T = "dict" ∧ ((∃ kvs, H p = some (.dK kvs)) ∨ ∃ kvs, H p = some (.dT kvs))) ∨ (T = "set" ∧ ∃ S n, H p = some (.set S n))
  | _ => False
theorem tyV_is {pins : List (Addr × Obj)} {σ : St} {H : Hp} {s : Shared} {T : String} {x : V} {v : Value} (I : Inv X pins σ H s) (r : RelV x v) (ty : tyV X.K T x H) :
    s.TypeIs v T ∧ ∀ a, v = .ref a → ∃ ob, s.heap.get? a = some ob ∧ ob.dict = none := by
  cases x with
  | str z =>
    obtain ⟨t, rfl⟩ := r
    cases (show T = "str" from ty)
    exact ⟨typeIs_str s z t, fun _ e => nomatch e⟩
  | int i =>
    obtain ⟨t, rfl⟩ := r
    cases (show T = "int" from ty)
    exact ⟨typeIs_int s i t, fun _ e => nomatch e⟩
  | ref p =>
    cases r
    rcases ty with ⟨rfl, xs, hq⟩ | ⟨rfl, o, hk, hc, hd⟩ | ⟨rfl, hk⟩ | ⟨rfl, S, n, hk⟩
    · obtain ⟨its, _, pl, _⟩ := I.list hq
      refine ⟨pl.isList.typeIs, fun a e => ?_⟩
      cases e
      obtain ⟨o, n, e, c, hd, _⟩ := pl
      exact ⟨o, e, hd⟩
    · refine ⟨⟨o, I.kIn p o hk, hc⟩, fun a e => ?_⟩
      cases e
      exact ⟨o, I.kIn _ o hk, hd⟩
    · have z : ∃ o, s.heap.get? p = some o ∧ o.ExactDict := by
        rcases hk with ⟨kvs, hk⟩ | ⟨kvs, hk⟩
        · obtain ⟨_, _, _, _, o, _, _, e, ex, _⟩ := I.hok p _ hk
          exact ⟨o, e, ex⟩
        · obtain ⟨_, _, _, _, o, _, _, e, ex, _⟩ := I.hok p _ hk
          exact ⟨o, e, ex⟩
      obtain ⟨o, e, ex⟩ := z
      refine ⟨⟨o, e, ex.1⟩, fun a e2 => ?_⟩
      cases e2
      exact ⟨o, e, ex.2.1⟩
    · obtain ⟨o, _, _, _, e, ex, _⟩ := I.hok p _ hk
      refine ⟨⟨o, e, ex.1⟩, fun a e2 => ?_⟩
      cases e2
      exact ⟨o, e, ex.2.1⟩
  | _ => exact False.elim ty
def tBM (K : PySem.W.Frag) (T : String) (r : V → List V → Hp → VK → Prop) (to : TE) (t : TA) : TE := fun σ H Q => to σ H fun x H1 => tyV K T x H1 ∧ t σ H1 fun xs H2 => r x xs H2 Q
variable {o e : Expr} {es : List Expr} {to : TE} {t : TA} {name : Str} {apos cpos : Pos} {T id : String} {r : V → List V → Hp → VK → Prop}
theorem pe_bm (pa : PlainAttrs T) (slot : Slot T name id) (hty : typeOf (.builtin id) = pure (.type "method_descriptor")) (hm : MtR X id r) (ho : PE X o to) (ha : PA X (e :: es) t)
    (hbase : attributeBase o name X.env (eval o X.env) = eval o X.env := by rfl)
    (hfew : ((backTo cpos (starEach (e :: es) X.env)).all (fun x => !x.1) && (backToKw cpos (keywordEach [] X.env)).all (fun x => x.1.isSome)
      && decide ((e :: es).length + ([] : List Keyword).length + (if ([] : List Keyword).isEmpty then 0 else 1) < 30)) = true := by rfl)
    (hline : (apos.endLine == cpos.line) = true := by rfl) (hs : starEach (e :: es) X.env = (false, eval e X.env) :: starEach es X.env := by rfl) (hplain : (backTo cpos (starEach es X.env)).any (·.1) = false := by rfl) :
    PE X (.Call (.Attribute o name apos) (e :: es) [] cpos) (tBM X.K T r to t) := by
  with_unfolding_all
    intro pins s σ H Q I h
    refine wpAny_Call_method_late hbase hfew hline rfl (thn (ho pins s σ H _ I h) fun v s1 ⟨x, H1, I1, r1, ty, q1⟩ => ?_)
    obtain ⟨h1, h2⟩ := tyV_is I1 r1 ty
    refine ⟨T, id, pa, slot, hty, h1, h2, ?_⟩
    have hA := ha cpos pins s1 σ H1 _ I1 q1
    rw [hs] at hA ⊢
    refine Calls.callWith_builtin (by show (false || (backTo cpos (starEach es X.env)).any (·.1)) = false; rw [hplain] <;> rfl) (Calls.evalArgs_plain ?_)
    exact thn hA fun us s2 ⟨vs, H2, I2, r2, q2⟩ => hm pins s2 σ H2 x vs v us Q I2 r1 r2 q2
/- xs.append(e), list.index on a module's tuple .. are MtR facts of 06m -/
end
end L2

namespace L2
open PySem PySem.Spec PyProof.Rows

def MtM (X : Cx) (id : String) (r : V → List V → Hp → VK → Prop) : Prop :=
  ∀ (pins : List (Addr × Obj)) (s : Shared) (σ : St) (H : Hp) (x : V) (xs : List V) (v : Value) (us : List Value) (Q : VK), Inv X pins σ H s → RelV x v → Vals xs us → r x xs H Q →
    wpAny (model X.prog X.w) X.A (call (.builtin id) (v :: us)) (EP X pins σ Q) X.xe s

/-! ### lists of values -/
theorem Vals.one : ∀ {x : V} {us : List Value}, Vals [x] us → ∃ u, us = [u] ∧ RelV x u
  | _, _, .cons r .nil => ⟨_, rfl, r⟩
section
variable {X : Cx} {pins : List (Addr × Obj)} {σ : St} {H : Hp} {s : Shared} {l b : Addr} {xs ys zs : List V}

/-! ### the two steps: a tracked list is rewritten, a new list is laid -/
theorem Inv.lset {its its' : List Value} {n : Nat} {f : Array Value → Array Value} {t' : Nat} (I : Inv X pins σ H s) (hH : H l = some (.lst xs))
    (e : s.heap.get? l = some { cls := .type "list", data := .seq its.toArray n }) (hf : f its.toArray = its'.toArray) (hv : Vals ys its') (hz : ys.length ≤ sizeLine) :
    Inv X pins σ (upd H l (.lst ys)) { s with heap := s.heap.update l (Obj.mapSeq f), toks := t' } := by
  have q := PySem.IsL.update e f
  rw [hf] at q
  refine I.write (x := l) (e := l) (by rw [hH]; exact trivial) (.inl rfl) (fun b' u hb hu => (Heap.get?_update_other s.heap (Obj.mapSeq f) (Ne.symm hb)).trans hu) ⟨_, q⟩ ?_
  exact ⟨hz, its', _, hv, q⟩
theorem Inv.lnew {its : List Value} {t' : Nat} (I : Inv X pins σ H s) (hv : Vals ys its) (hz : ys.length ≤ sizeLine) :
    Inv X pins σ (upd H s.heap.objs.size (.lst ys)) { s with heap := s.heap.push { cls := .type "list", data := .seq its.toArray }, toks := t' } :=
  I.laid (fun _ _ q => Heap.get?_push_of_some _ q) (Nat.le_refl _) ⟨hz, its, 0, hv, Heap.get?_push_size _ rfl⟩
theorem Inv.fresh (I : Inv X pins σ H s) : H s.heap.objs.size = none := I.hok.fresh (Nat.le_refl _)
theorem Inv.lstM (I : Inv X pins σ H s) (hH : H l = some (.lst xs)) : xs.length ≤ sizeLine ∧ ∃ (its : List Value) (n : Nat), Vals xs its ∧ xs.length = its.length ∧ s.heap.get? l = some { cls := .type "list", data := .seq its.toArray n } := by
  obtain ⟨z, its, n, r, e⟩ := I.hok l _ hH
  exact ⟨z, its, n, r, r.length, e⟩

end

section
variable {X : Cx}

/-! ### methods -/
def rAppend : V → List V → Hp → VK → Prop := fun x vs H Q => ∃ l xs y, x = .ref l ∧ vs = [y] ∧ H l = some (.lst xs) ∧ xs.length < sizeLine ∧ Q .non (upd H l (.lst (xs ++ [y])))
theorem mt_append : MtM X "list.append" rAppend := by
  intro pins s σ H x vs v us Q I rx rv h
  obtain ⟨l, xs, y, rfl, rfl, hH, hz, q⟩ := h
  cases rx
  obtain ⟨u, rfl, ru⟩ := rv.one
  obtain ⟨z, its, n, r, hl, e⟩ := I.lstM hH
  refine call_meets F.slot_list_append ⟨_, e, rfl⟩ F.entry_list_append (F.args_list_append_2 _ _) (PySem.list_append l its.toArray n u (by rw [List.size_toArray]; omega)) ⟨e, ?_⟩
  refine ⟨.non, _, I.lset (its' := its ++ [u]) hH e (by simp) (r.append (.cons ru .nil)) ?_, rfl, q⟩
  rw [List.length_append, List.length_singleton]
  omega

/-! ### list + list, list += list, list * int -/
def rCat : R2 := fun x y H Q => ∃ l b xs zs, x = .ref l ∧ y = .ref b ∧ H l = some (.lst xs) ∧ H b = some (.lst zs) ∧ xs.length + zs.length ≤ sizeLine ∧ ∀ p, H p = none → Q (.ref p) (upd H p (.lst (xs ++ zs)))
theorem op_cat : OpR X (binaryOp .Add) rCat := by
  intro pins s σ H x y v u Q I rx ry h
  obtain ⟨l, b, xs, zs, rfl, rfl, hH, hB, hz, q⟩ := h
  cases rx
  cases ry
  obtain ⟨z, its, n, r, hl, e⟩ := I.lstM hH
  obtain ⟨z2, its2, n2, r2, hl2, e2⟩ := I.lstM hB
  refine PySem.P.add_list e e2 ?_ (by rw [List.size_toArray, List.size_toArray]; omega)
  have ea : its.toArray ++ its2.toArray = (its ++ its2).toArray := by simp
  rw [ea]
  exact ⟨.ref _, _, I.lnew (t' := s.toks) (r.append r2) (by rw [List.length_append]; omega), rfl, q _ I.fresh⟩
/-! ### del xs[i] -/
end

/-! ### xs[a:b] = ys -/
section
variable {prog : Program} {w : World} {A : Around} {E : Value → Shared → Prop} {s : Shared}
set_option maxRecDepth 100000 in
end

section
variable {X : Cx}
end
end L2

namespace Att
open PySem PySem.W PySem.Calls PyProof.Rows

/-! ### the script -/
theorem ints_of_wellAll {P : Params} {h : Heap} : ∀ (ns : List Int) (vs : List Value), WellAll P h vs (ns.map WData.int) → IntsAre vs ns := by
  intro ns
  induction ns with
  | nil =>
    intro vs w
    rw [List.map_nil] at w
    cases w
    exact .nil
  | cons n ns ih =>
    intro vs w
    rw [List.map_cons] at w
    cases w with
    | cons a b =>
      cases a
      exact .cons _ _ (ih _ b)

theorem script_of {l : OpenLaw} {n : Nat} (hn : l.most = some n) {P : Params} {h : Heap} {args : List WData} {vals : List Value}
    (hpre : l.row.toRowW.claim.pre args = true) (hwl : WellAll P h vals args) :
    ∃ a vs ns, vals = [Value.ref a] ∧ args = [WData.list (ns.map WData.int)] ∧ h.get? a = some { cls := .type "list", data := .seq vs.toArray } ∧ IntsAre vs ns ∧ ns.length ≤ n := by
  have hsh : WShape.hasAll [] args [.list .int] = true := (pre_splitW hpre).1
  have hc : l.pre.holds [] { args := args } = true := (pre_splitW hpre).2
  obtain ⟨d, r, rfl, h1, h2⟩ := hasAllW_cons hsh
  obtain rfl := hasAllW_nil h2
  obtain ⟨xs, rfl, h3⟩ := hasW_list h1
  obtain ⟨ns, rfl⟩ := items_int h3
  have hlen : ns.length ≤ n := by
    unfold OpenLaw.pre at hc
    have h4 : (WTm.not (.lt (.lit (.int (n : Int))) (.len (.arg 0)))).holds [] { args := [.list (ns.map .int)] } = true := by
      have h4 := (holds_andW hc).1
      rw [hn] at h4
      exact h4
    have h5 := condW_of h4 (w_not (w_lt w_lit (w_len_list (w_arg rfl))))
    rw [List.length_map] at h5
    refine Nat.le_of_not_lt fun q => ?_
    have q' : (n : Int) < ((ns.length : Nat) : Int) := by omega
    first
      | (rw [decide_eq_true q'] at h5; exact absurd h5 (by decide))
      | (simp at h5; omega)
  cases hwl with
  | cons w1 w2 =>
    cases w2
    cases w1 with
    | list ho hall => exact ⟨_, _, ns, rfl, rfl, ho, ints_of_wellAll ns _ hall, hlen⟩

theorem post_true (l : OpenLaw) (args : List WData) : l.row.toRowW.claim.post args (.bool true) args = true :=
  postW_of (r := l.row.toRowW) (X := (true == true))
    (show WShape.has [] (.bool true) .bool = true by first | rfl | decide | simp [WShape.has, WShape.arms, WShape.armsAll])
    (show (WTm.eq .res (.lit (.bool true))).value [] { args := args, res := some (.bool true), after := args } = some (.bool (true == true)) from w_eq_bool (w_res rfl) w_lit) rfl

/-! ### the attachment: holds_open's last premise (the goal 'hc' behind k_head) from a wpAny of the law's body -/
theorem attach_call {l : OpenLaw} {n : Nat} {q : Program} {loose : List Str} {XP : (Str → Option Value) → Heap → Prop} {YP : World → Heap → Prop} {d : DefRec}
    (hn : l.most = some n) (hdf : d.params.defaults = [])
    (call : ∀ (w : World) (s₀ s₁ : Shared) (mg mb : Str → Option Value) (fa : Addr) (o : Obj) (pm cd doc : Value) (a : Addr) (vs : List Value) (ns : List Int),
      Ground q loose [] XP w s₀ mg mb s₁.heap → YP w s₁.heap →
      s₁.heap.get? fa = some o → o.data = .func (docDef d.name d.params d.body d.scope pm cd doc) → s₁.heap.CodeRec cd d.name → mg d.name = some (.ref fa) →
      s₁.heap.get? a = some { cls := .type "list", data := .seq vs.toArray } → IntsAre vs ns → ns.length ≤ n → s₁.gens = #[] →
      codeAny (model l.prog w) callerA (.call (.ref fa) ⟨[.ref a], []⟩) (fun r s' => r = .ok (.ret (.bool true)) ∧ OldK s₁.heap s'.heap ∧ s'.os = s₁.os ∧ AllBare s'.gens) s₁) :
    WalkO q loose XP YP l.row.toRowW d [] (fun f vs => PySem.call f vs) := by
  intro w s₀ s₁ mg mb G Y fa o pm cd doc dV kV ho hd hcd hD hmg hg args vals as hpre hlay hrd hwl hlo
  obtain rfl : dV = .none := Dflts.none hD hdf
  obtain rfl : kV = .none := Dflts.noKw hD
  obtain ⟨a, vs, ns, rfl, rfl, hobj, hints, hlen⟩ := script_of hn hpre hwl
  refine enter_call (codeAny_mono (call w s₀ s₁ mg mb fa o pm cd doc a vs ns G Y ho (fd_plain hd) hcd hmg hobj hints hlen hg) fun r s' hq => ?_)
  obtain ⟨rfl, h2, h3, h4⟩ := hq
  exact ⟨.inl ⟨.bool true, .bool true, [], rfl, fun _ => rfl, .bool true, post_true l _, fun _ => ⟨List.Pairwise.nil, fun _ hm => (nomatch hm)⟩⟩, h2, h3, h4⟩

/-! ### rules over ANY heap (no ledger) from facts about the written part K: the library's own take a ledger (News) for what they write -/
section
variable {prog : Program} {w : World} {A : Around} {E : Value → Shared → Prop} {s : Shared} {K : Frag}

/-! the whole heap as the ledger: makes every rule that writes through a ledger a rule over any heap -/
def ledger (h : Heap) (L d : Addr) : List (Addr × Obj) := (List.range h.objs.size).filterMap fun a => if a = L ∨ a = d then none else (h.get? a).map fun o => (a, o)
end
end Att

namespace L2
open PySem PySem.Spec PyProof.Rows

theorem vals_ints : ∀ {vs : List Value} {ns : List Int}, IntsAre vs ns → Vals (ns.map V.int) vs
  | _, _, .nil => .nil
  | _, _, .cons n t h => .cons ⟨t, rfl⟩ (vals_ints h)

def Only (H : Hp) : Prop := ∀ b, H b = none ∨ ∃ o xs, H b = some (.frz o (.lst xs))

theorem law_call {P : Program} {w : World} {K : PySem.W.Frag} {mg mb : Str → Option Value} {CX : CXT} {k : Nat} {fa a : Addr} {fd : FuncData} {x : Str} {sp : Sp} {s₁ : Shared} {vs : List Value} {ns : List Int}
    (KX : K.In s₁.heap) (hns : s₁.heap.Ns mainGlobals mg) (hb : s₁.heap.Ns builtinsNs mb) (hbb : ∀ x : Str, x ≠ "__name__" → mb x = bootBuiltins x) (hlim : s₁.heap.NoLimit) (hg : s₁.gens = #[])
    (ha : s₁.heap.get? a = some { cls := .type "list", data := .seq vs.toArray }) (hi : IntsAre vs ns) (hl : ns.length ≤ sizeLine) (hr : Room k callerA)
    (F : ∀ base : Heap, K.In base → base.Ns mainGlobals mg → FnOk P w K mg base CX k fa fd [x] sp) (hbind : ∀ (s : Shared) (u : Value), BindsTo s fd ⟨[u], []⟩ [(x, u)])
    (hsp : ∀ H : Hp, Only H → SqL K H a (ns.map V.int) → sp [.ref a] H (fun v _ => v = .bl true) fun _ _ _ => False)
    (hCX : ∀ H e s', CX [] H s₁ (fun _ _ _ => False) e s' → False) :
    codeAny (model P w) callerA (.call (.ref fa) ⟨[.ref a], []⟩) (fun r s' => r = .ok (.ret (.bool true)) ∧ OldK s₁.heap s'.heap ∧ s'.os = s₁.os ∧ AllBare s'.gens) s₁ := by
  have rv := vals_ints hi
  have lenV := hi.length
  -- from an abstract heap in which nothing but the script may be tracked
  have core : ∀ H : Hp, Only H → SqL K H a (ns.map V.int) → HOk P w H s₁.heap → (∀ b, H b ≠ none → b = a) → (H a ≠ none → K.lookup a = none) →
      codeAny (model P w) callerA (.call (.ref fa) ⟨[.ref a], []⟩) (fun r s' => r = .ok (.ret (.bool true)) ∧ OldK s₁.heap s'.heap ∧ s'.os = s₁.os ∧ AllBare s'.gens) s₁ := by
    intro H hO hS hok hA hK
    have base_of : ∀ {b : Addr} {o : Obj}, s₁.heap.get? b = some o → H b = none → (hidT s₁.heap H).get? b = some o := fun e n => hidT_get e n
    have noA : ∀ {b : Addr} {o : Obj} {es : Array DictEntry} {ep : Nat}, s₁.heap.get? b = some o → o.data = .dict es ep → H b = none := fun {b o es ep} e d => by
      cases q : H b with
      | none => rfl
      | some u =>
        have e' : b = a := hA b (by rw [q]; simp)
        subst e'
        rw [ha] at e; cases e
        have d' : Data.seq vs.toArray _ = Data.dict es ep := d
        cases d'
    have nsK : ∀ {b : Addr} {m : Str → Option Value}, s₁.heap.Ns b m → (hidT s₁.heap H).Ns b m := fun {b m} ⟨o, es, ep, e, d, r⟩ => ⟨o, es, ep, base_of e (noA e d), d, r⟩
    have hKb : K.In (hidT s₁.heap H) := fun b o e => base_of (KX b o e) (by
      cases q : H b with
      | none => rfl
      | some u =>
        have e' : b = a := hA b (by rw [q]; simp)
        subst e'
        rw [hK (by rw [q]; simp)] at e; cases e)
    have hM : Mod K mg (hidT s₁.heap H) := ⟨hKb, nsK hns, ⟨mb, nsK hb, hbb⟩, let ⟨mc, h1, h2⟩ := hlim; ⟨mc, nsK h1, h2⟩⟩
    have e0 : Env0 P w K mg (hidT s₁.heap H) callerA [] s₁ H := ⟨rfl, hM, fun b o e => of_hidT e, Nat.le_of_eq (hidT_size _ _), trivial, fun b hb => absurd (show b ∈ ([] : List Addr) from hb) (by simp), hok, .of_eq hg⟩
    refine codeAny_mono ((F _ hKb (nsK hns)).run callerA [] s₁ H ⟨[.ref a], []⟩ [.ref a] [.ref a] _ _ hr e0 (hbind s₁ (.ref a)) (.cons rfl .nil) (hsp H hO hS)) fun r s' h => ?_
    cases r with
    | error e => exact (hCX H e s' h).elim
    | ok fl =>
      cases fl with
      | next => exact False.elim h
      | brk => exact False.elim h
      | cont => exact False.elim h
      | ret u =>
        obtain ⟨v, H', os, bare, un, hok', r', q⟩ := h
        have q' : v = .bl true := q
        subst q'
        obtain rfl : u = Value.bool true := r'
        refine ⟨rfl, OldK.of_keep fun b o e => ?_, os, bare⟩
        cases q : H b with
        | none => exact un.keep b o e q (by intro z; exact absurd (show b ∈ ([] : List Addr) from z) (by simp)) (by simp)
        | some u =>
          rcases hO b with z | ⟨ob, xs, z⟩
          · rw [q] at z; cases z
          · have z2 := un.frzs b ob _ z
            obtain ⟨e1, _⟩ := hok b _ z
            obtain ⟨e2, _⟩ := hok' b _ z2
            rw [e] at e1; cases e1
            exact e2
  cases hk : K.lookup a with
  | some o =>
    -- the script is one of the module's own objects
    have e := KX a o hk
    rw [ha] at e
    cases e
    refine core (fun _ => none) (fun _ => .inl rfl) (.inr ⟨_, vs.toArray, _, hk, rfl, rfl, rfl, by rw [List.size_toArray, lenV]; exact hl, by simpa using rv⟩) (fun b u z => by have z' : (none : Option HO) = some u := z; cases z') (fun b z => absurd rfl z) fun z => absurd rfl z
  | none =>
    refine core (fun b => if b = a then some (.frz { cls := .type "list", data := .seq vs.toArray } (.lst (ns.map V.int))) else none) (fun b => ?_) (.inl (.inr ⟨{ cls := .type "list", data := .seq vs.toArray }, if_pos rfl⟩)) (fun b u z => ?_) (fun b z => ?_) fun _ => hk
    · by_cases hb : b = a
      · exact .inr ⟨_, _, if_pos hb⟩
      · exact .inl (if_neg hb)
    · by_cases hb : b = a
      · have z' := (if_pos hb).symm.trans z
        cases z'
        subst hb
        exact ⟨ha, by rw [List.length_map]; exact hl, vs, _, rv, ha⟩
      · have z' := (if_neg hb).symm.trans z
        cases z'
    · by_cases hb : b = a
      · exact hb
      · exact absurd (if_neg hb) z
end L2

namespace L2
open PySem PySem.Spec PyProof.Rows

abbrev KOf {K : PySem.W.Frag} {h : Heap} (_ : K.In h) : PySem.W.Frag := K

theorem walk_of {l : PySem.W.OpenLaw} {n k : Nat} {q : Program} {loose : List Str} {XP : (Str → Option Value) → Heap → Prop} {YP : World → Heap → Prop} {d : DefRec} {K : Params → PySem.W.Frag} {CX : World → CXT} {sp : World → Sp} {x : Str}
    (hn : l.most = some n) (hn2 : n ≤ sizeLine) (hdf : d.params.defaults = []) (hr : Room k callerA)
    (hY : ∀ (w : World) (h : Heap), YP w h → (K w.params).In h)
    (F : ∀ (w : World) (mg : Str → Option Value) (fa : Addr) (h : Heap), (K w.params).In h → h.Ns mainGlobals mg → mg d.name = some (.ref fa) →
      ∃ fd : FuncData, (∀ (s : Shared) (u : Value), BindsTo s fd ⟨[u], []⟩ [(x, u)]) ∧
        ∀ base : Heap, (K w.params).In base → base.Ns mainGlobals mg → FnOk l.prog w (K w.params) mg base (CX w) k fa fd [x] (sp w))
    (hsp : ∀ (w : World) (H : Hp) (a : Addr) (ns : List Int), ns.length ≤ n → Only H → SqL (K w.params) H a (ns.map V.int) → sp w [.ref a] H (fun v _ => v = .bl true) fun _ _ _ => False)
    (hCX : ∀ (w : World) (H : Hp) (s : Shared) (e : Value) (s' : Shared), CX w [] H s (fun _ _ _ => False) e s' → False) :
    PySem.W.WalkO q loose XP YP l.row.toRowW d [] (fun f vs => PySem.call f vs) := by
  refine Att.attach_call hn hdf fun w s₀ s₁ mg mb fa o pm cd doc a vs ns G Y ho hd hcd hmg hobj hints hlen hg => ?_
  have KX := hY w _ Y
  obtain ⟨fd, hb, hF⟩ := F w mg fa _ KX G.T.g hmg
  exact law_call KX G.T.g G.T.b G.T.builtins G.T.nolimit hg hobj hints (Nat.le_trans hlen hn2) hr hF hb (fun H hO hS => hsp w H a ns hlen hO hS) fun H e s' => hCX w H s₁ e s'
end L2

/- THE LAST THEOREM (shape; LID, My.* are yours):
   My.Adr: a structure of the addresses that your layer names (classes, functions); My.Txt K t: a structure (Prop) of the equations over K;
   My.txt_mk : {K} {implicit addresses ..} (e1 : nsIn K mainGlobals "law" = some (some (.ref f))) (e2 : K.lookup f = some ⟨oc, od, .func (fnOf "law" "law" params body scope dV kV doc pm an cdv ct), sl⟩) (e3 : codeIn K cdv "law" = true) .. : ∃ t, My.Txt K t

set_option maxRecDepth 100000 in
set_option maxHeartbeats 0 in
theorem PySem.Challenge.cw_LID_holds : PySem.Challenge.rw_LID.Holds := by
  w_on; o_law; k_head; (case hw => w_witness2)
  k_fill
  refine L2.walk_of (l := PySem.Challenge.rw_LID) (n := 63) (k := 40) (x := "script") (CX := fun w => ..) (sp := fun _ => My.sp_law) rfl (by decide) rfl ⟨rfl, by decide, by decide⟩ (fun w h Y => PySem.W.kIn_of Y) ?F ?S ?C
  case F =>
    intro w mg fa h KX G hmg
    have T : ∃ t, My.Txt (L2.KOf KX) t := by
      dsimp only [L2.KOf]                          -- K must stand as «<heap const> w.params» for k_is
      refine' My.txt_mk ?e1 ?e2 ?e3 ..
      (case e1 => PySem.W.k_is)                    -- in the order: a name -> its address -> its object -> its parts
      (case e2 => PySem.W.k_is)
      ..
    obtain ⟨t, T⟩ := T
    have e0 := hmg.symm.trans (PySem.W.mg_of KX G T.law)
    cases e0                                       -- fa is the law's own address
    exact ⟨_, fun s u => .of_eq rfl, fun base kb nb => My.law_fn T kb nb⟩     -- if «.of_eq rfl» comes too early: refine' ⟨_, ?b, fun base kb nb => My.law_fn T kb nb⟩; exact fun s u => .of_eq rfl
  case S => exact fun w H a ns hl hO hS => ..
  case C => exact ..
(the tactic k_is has no namespace: write k_is) -/

/-! SHORT WORDS over the layer: a def of the text, its body, what a loop and a test want. -/
namespace L2
open PySem PySem.Spec PyProof.Rows

/-! ### the text by places -/
def inClass (s : Stmt) (j : Nat) : Stmt := match s with
  | .ClassDef _ _ _ body _ _ _ _ _ _ _ => body.getD j (.Pass ⟨0, 0, 0, 0⟩)
  | _ => .Pass ⟨0, 0, 0, 0⟩
def defArgs (s : Stmt) : Arguments := match s with
  | .FunctionDef _ a _ _ _ _ _ _ _ _ => a
  | _ => { posonlyargs := [], args := [], vararg := none, kwonlyargs := [], kw_defaults := [], kwarg := none, defaults := [] }
def defBody (s : Stmt) : List Stmt := match s with
  | .FunctionDef _ _ b _ _ _ _ _ _ _ => b
  | _ => []
def defScope (s : Stmt) : Scope := match s with
  | .FunctionDef _ _ _ _ _ _ sc _ _ _ => sc
  | _ => { kind := .function, names := [], isGenerator := false, isCoroutine := false }

/-! ### no exception leaves a def -/
abbrev CX0 : CXT := fun _ _ _ _ _ _ => False
abbrev E0 : XK := fun _ _ _ => False
theorem pass0 {X : Cx} : Passes CX0 X E0 := fun _ _ _ _ _ _ _ h => h.elim

/-! ### a def (or method) of the text as it stands behind the top -/
structure Fun (K : PySem.W.Frag) (x qual : Str) (st : Stmt) (f : Addr) (fd : FuncData) : Prop where
  ex : ∃ (oc : Value) (od : Option Addr) (kV doc pm : Value) (an : Option Addr) (cdv ct : Value) (osl : Array (Option Value)),
    fd = PySem.W.fnOf x qual (defArgs st) (defBody st) (defScope st) .none kV doc pm an cdv ct ∧ K.lookup f = some ⟨oc, od, .func fd, osl⟩ ∧ PySem.W.codeIn K cdv qual = true
  kp : PySem.W.keepIn K (.ref f) = true
section
variable {P : Program} {w : World} {K : PySem.W.Frag} {mg : Str → Option Value} {base : Heap}
theorem Fun.ok {x qual : Str} {st : Stmt} {f : Addr} {fd : FuncData} {N ps : List Str} {k : Nat} {sp : Sp} (F : Fun K x qual st f fd) (S : FnScope N ps (defScope st)) (len : ∀ vs H Q E, sp vs H Q E → vs.length = ps.length)
    (hbody : ∀ (cdv : Value) (A : Around) (outer : List Env) (s : Shared) (H : Hp) (vs : List V) (Q : VK) (E : XK), Room k (A.deeper (envOfC qual (defScope st) s.heap.objs.size f cdv)) → sp vs H Q E →
      ∃ t, PSs (cxOf CX0 P w K mg base N qual (defScope st) f cdv A outer s H E).nox (defBody st) t ∧ t { nx := fun _ H' => Q .non H', rt := Q } (start N vs) H) : FnOk P w K mg base CX0 (k + 1) f fd ps sp := by
  obtain ⟨oc, od, kV, doc, pm, an, cdv, ct, osl, rfl, lk, hcd⟩ := F.ex
  refine fn_of lk hcd S len fun A outer s H vs Q E hr hsp => ?_
  obtain ⟨t, h, q⟩ := hbody cdv A outer s H vs Q E hr hsp
  exact ⟨t, h.nox, q⟩
theorem Fun.binds {x qual : Str} {st : Stmt} {f : Addr} {fd : FuncData} {ps : List Str} (F : Fun K x qual st f fd)
    (h : ∀ (kV doc pm : Value) (an : Option Addr) (cdv ct : Value) (us : List Value), us.length = ps.length → bindArgs (PySem.W.fnOf x qual (defArgs st) (defBody st) (defScope st) .none kV doc pm an cdv ct) ⟨us, []⟩ = pure (ps.zip us)) : Binds K fd ps [] := by
  obtain ⟨oc, od, kV, doc, pm, an, cdv, ct, osl, rfl, lk, hcd⟩ := F.ex
  exact .all (h kV doc pm an cdv ct)
theorem fun_mk {x qual : Str} {st : Stmt} {f : Addr} {oc : Value} {od an : Option Addr} {osl : Array (Option Value)} {kV doc pm cdv ct : Value} (l : K.lookup f = some ⟨oc, od, .func (PySem.W.fnOf x qual (defArgs st) (defBody st) (defScope st) .none kV doc pm an cdv ct), osl⟩)
    (c : PySem.W.codeIn K cdv qual = true) (k : PySem.W.keepIn K (.ref f) = true) : Fun K x qual st f (PySem.W.fnOf x qual (defArgs st) (defBody st) (defScope st) .none kV doc pm an cdv ct) := ⟨⟨oc, od, kV, doc, pm, an, cdv, ct, osl, rfl, l, c⟩, k⟩
end
theorem small1000 {n : Nat} (h : n ≤ 1000) : n < sizeLine := Nat.lt_of_le_of_lt h (by decide)

/-! ### expressions in short: the name that stands in the i-th slot -/
section
variable {X : Cx}
theorem pv (i : Nat) {x : Str} {pos : Pos} (hN : X.N[i]? = some x := by rfl) (hv : Vis X.env.scope x := by first | exact Or.inl rfl | exact Or.inr (Or.inl rfl) | exact Or.inr (Or.inr rfl)) (hd : (x == ("__debug__" : Str)) = false := by decide)
    (hcd : (x == ("__classdict__" : Str)) = false := by decide) : PE X (.Name x pos) (tVar i) := pe_var hN hv hd hcd
end

/-! ### tests -/
theorem iteF {A B : Prop} (h : B) : if false = true then A else B := by
  rw [if_neg Bool.false_ne_true]
  exact h
theorem iteT {A B : Prop} (h : A) : if true = true then A else B := by
  rw [if_pos rfl]
  exact h
theorem ite2 {c A B : Prop} [Decidable c] (h1 : c → A) (h2 : ¬ c → B) : if c then A else B := by
  by_cases h : c
  · rw [if_pos h]
    exact h1 h
  · rw [if_neg h]
    exact h2 h
/-! ### heaps -/
def Same (H H' : Hp) : Prop := ∀ b o, H b = some o → H' b = some o
theorem Same.refl (H : Hp) : Same H H := fun _ _ h => h
theorem Same.trans {H H1 H2 : Hp} (a : Same H H1) (b : Same H1 H2) : Same H H2 := fun c o h => b c o (a c o h)
theorem Same.seq {K : PySem.W.Frag} {H H' : Hp} {a : Addr} {xs : List V} (e : Same H H') (h : SqL K H a xs) : SqL K H' a xs := by
  rcases h with (h | ⟨o, h⟩) | h
  · exact .inl (.inl (e _ _ h))
  · exact .inl (.inr ⟨o, e _ _ h⟩)
  · exact .inr h

/-! ### a dict's pairs: keys that differ -/
section
variable {κ : Type} [DecidableEq κ]
end
end L2

set_option Elab.async false
set_option linter.all false
set_option maxRecDepth 100000
namespace L2
open PySem PySem.Spec PyProof.Rows
/-! ## own additions to the layer -/
theorem bt_abs : bootBuiltins "abs" = some (.builtin "abs") := by decide +kernel
theorem bt_len : bootBuiltins "len" = some (.builtin "len") := by decide +kernel
theorem bt_isinstance : bootBuiltins "isinstance" = some (.builtin "isinstance") := by decide +kernel
theorem bt_int : bootBuiltins "int" = some (.type "int") := by decide +kernel
theorem bt_str : bootBuiltins "str" = some (.type "str") := by decide +kernel
theorem bt_bool : bootBuiltins "bool" = some (.type "bool") := by decide +kernel
theorem bt_tuple : bootBuiltins "tuple" = some (.type "tuple") := by decide +kernel
theorem bt_list : bootBuiltins "list" = some (.type "list") := by decide +kernel
theorem bt_all : bootBuiltins "all" = some (.builtin "all") := by decide +kernel

structure Cal (P : Program) (w : World) (K : PySem.W.Frag) (mg : Str → Option Value) (base : Heap) (x : Str) (k : Nat) (ps : List Str) (sp : Sp) : Prop where
  ex : ∃ f fd, FnOk P w K mg base CX0 k f fd ps sp ∧ Binds K fd ps [] ∧ mg x = some (.ref f) ∧ PySem.W.keepIn K (.ref f) = true
structure Dfn (K : PySem.W.Frag) (mg : Str → Option Value) (x : Str) (st : Stmt) (ps : List Str) (f : Addr) (fd : FuncData) : Prop where
  F : Fun K x x st f fd
  b : Binds K fd ps []
  m : mg x = some (.ref f)
theorem Dfn.cal {P : Program} {w : World} {K : PySem.W.Frag} {mg : Str → Option Value} {base : Heap} {x : Str} {st : Stmt} {ps : List Str} {f : Addr} {fd : FuncData} {k : Nat} {sp : Sp}
    (D : Dfn K mg x st ps f fd) (G : FnOk P w K mg base CX0 k f fd ps sp) : Cal P w K mg base x k ps sp := ⟨⟨f, fd, G, D.b, D.m, D.F.kp⟩⟩
section
variable {X : Cx} {k : Nat} {ps : List Str} {sp : Sp} {x : Str} {p pos : Pos} {e : Expr} {es : List Expr} {t : TA}
theorem pe_cal (C : Cal X.prog X.w X.K X.mg X.base x k ps sp) (hr : Room k X.A) (hg : Gl X x) (ha : PA X (e :: es) t) (hdb : (x == ("__debug__" : Str)) = false := by decide)
    (he : starEach (e :: es) X.env = (false, eval e X.env) :: starEach es X.env := by rfl) (hpl : (backTo pos (starEach es X.env)).any (·.1) = false := by rfl) :
    PE X (.Call (.Name x p) (e :: es) [] pos) (tCall sp [] E0 t) := by
  obtain ⟨f, fd, G, b, m, kp⟩ := C.ex
  exact pe_call G hr hg m kp b .nil pass0 ha hdb he hpl
end
section
variable {X : Cx}
def CDivB (_ j : Int) : Prop := 0 < j ∧ j < 1000000000000000000000000000000000000000000000000000000000000
theorem op_fdivB : OpR X (binaryOp .FloorDiv) (rI CDivB fun i j => .int (i / j)) := opI fun i j _ _ _ _ _ hc q => by
  have h1 : (0 : Int) < j := hc.1
  have h2 : j < 1000000000000000000000000000000000000000000000000000000000000 := hc.2
  have h3 : j.natAbs < 2 ^ 200 := by
    have z : (1000000000000000000000000000000000000000000000000000000000000 : Nat) ≤ 2 ^ 200 := by decide
    exact Nat.lt_of_lt_of_le (by omega) z
  have h4 : j.natAbs.log2 < 200 := (Nat.log2_lt (by omega)).mpr h3
  exact floordiv_int (by omega) (by rw [Int.fdiv_eq_ediv_of_nonneg i (by omega)]; exact q) (.inl (PyProof.noPylong_of_log2 (by omega)))
/-! == of two tuples, of two lists, of flat values -/
end
theorem same_new {H : Hp} {p : Addr} (h : H p = none) (o : HO) : Same H (upd H p o) := fun b u q => by rw [upd_ne (ne_of_none q h)]; exact q
section
variable {X : Cx} {es : List Expr} {t : TA} {pos : Pos}
def tTupS (t : TA) : TE := fun σ H Q => t σ H fun xs H1 => xs.length ≤ sizeLine ∧ ∀ p H2, Same H1 H2 → H1 p = none → H2 p = some (.tup xs) → Q (.ref p) H2
def tLstS (t : TA) : TE := fun σ H Q => t σ H fun xs H1 => xs.length ≤ sizeLine ∧ ∀ p H2, Same H1 H2 → H1 p = none → H2 p = some (.lst xs) → Q (.ref p) H2
theorem pe_tupS {x1} (h : PA X es t) : PE X (.Tuple es x1 pos) (tTupS t) := by
  with_unfolding_all
    intro pins s σ H Q I hq
    refine wpAny_Tuple_spliced (thn (h pos pins s σ H _ I hq) fun us s1 ⟨xs, H1, I1, r, z, q⟩ => ⟨by rw [← r.length]; exact z, ?_⟩)
    have hf : H1 s1.heap.objs.size = none := I1.hok.fresh (Nat.le_refl _)
    refine ⟨.ref s1.heap.objs.size, upd H1 s1.heap.objs.size (.tup xs), I1.laid (t' := s1.toks) (fun b u e => Heap.get?_push_of_some _ e) (Nat.le_refl _) ?_, rfl, q _ _ (same_new hf _) hf upd_same⟩
    exact ⟨z, us, r, ⟨_, Heap.get?_push_size _ rfl, rfl, _, rfl⟩⟩
theorem pe_lstS (h : PA X es t) : PE X (.List es pos) (tLstS t) := by
  with_unfolding_all
    intro pins s σ H Q I hq
    refine wpAny_List_spliced (thn (h pos pins s σ H _ I hq) fun us s1 ⟨xs, H1, I1, r, z, q⟩ => ⟨by rw [← r.length]; exact z, ?_⟩)
    have hf : H1 s1.heap.objs.size = none := I1.hok.fresh (Nat.le_refl _)
    refine ⟨.ref s1.heap.objs.size, upd H1 s1.heap.objs.size (.lst xs), I1.laid (t' := s1.toks) (fun b u e => Heap.get?_push_of_some _ e) (Nat.le_refl _) ?_, rfl, q _ _ (same_new hf _) hf upd_same⟩
    exact ⟨z, us, 0, r, Heap.get?_push_size _ rfl⟩
end
section
variable {X : Cx} {st : Stmt} {rest : List Stmt} {t u : TS}
def tMid (t u : TS) : TS := fun D σ H => ∃ M : St → Hp → Prop, t { D with nx := M } σ H ∧ ∀ σ' H', M σ' H' → u D σ' H'
theorem pss_mid (h1 : PS X st t) (h2 : PSs X rest u) : PSs X (st :: rest) (tMid t u) := by
  with_unfolding_all
    intro pins s σ H D I h
    obtain ⟨M, h, hm⟩ := h
    refine wpAny_execs_cons (thn (h1 pins s σ H { D with nx := M } I h) fun f s1 q => ?_)
    cases f with
    | next =>
      obtain ⟨σ', H', I', q⟩ := q
      exact h2 pins s1 σ' H' D I' (hm σ' H' q)
    | ret v => exact q
    | brk => exact q
    | cont => exact q
end
theorem sz (n : Nat) (h : n ≤ 1000) : n ≤ sizeLine := Nat.le_of_lt (small1000 h)
theorem dint (a b : Int) : decide (V.int a = V.int b) = decide (a = b) := by
  rw [Bool.eq_iff_iff]
  simp
theorem ndi_t {a b : Int} (h : (!decide (V.int a = V.int b)) = true) : a ≠ b := by
  rw [dint] at h
  simpa using h
theorem ndi_f {a b : Int} (h : ¬ (!decide (V.int a = V.int b)) = true) : a = b := by
  rw [dint] at h
  simpa using h
def spLaw (K : PySem.W.Frag) : Sp := fun vs H Q _ => ∃ (a : Addr) (ns : List Int), vs = [.ref a] ∧ SqL K H a (ns.map V.int) ∧ ns.length ≤ 63 ∧ ∀ H', Q (.bl true) H'
section
variable {X : Cx}
def rCatS : R2 := fun x y H Q => ∃ l b xs zs, x = .ref l ∧ y = .ref b ∧ H l = some (.lst xs) ∧ H b = some (.lst zs) ∧ xs.length + zs.length ≤ sizeLine ∧ ∀ p H2, Same H H2 → H p = none → H2 p = some (.lst (xs ++ zs)) → Q (.ref p) H2
theorem op_catS : OpR X (binaryOp .Add) rCatS := by
  intro pins s σ H x y v u Q I rx ry h
  obtain ⟨l, b, xs, zs, e1, e2, h1, h2, hz, q⟩ := h
  exact op_cat pins s σ H x y v u Q I rx ry ⟨l, b, xs, zs, e1, e2, h1, h2, hz, fun p hp => q p _ (same_new hp _) hp upd_same⟩
end
theorem TyOf.same {K : PySem.W.Frag} {H H' : Hp} {x : V} {t : Value} (s : Same H H') (h : TyOf K H x t) : TyOf K H' x t := by
  cases h with
  | non => exact .non
  | bl b => exact .bl b
  | int i => exact .int i
  | str z => exact .str z
  | flt z => exact .flt z
  | lst e => exact .lst (s _ _ e)
  | frz e => exact .frz (s _ _ e)
  | tup e => exact .tup (s _ _ e)
  | dK e => exact .dK (s _ _ e)
  | dT e => exact .dT (s _ _ e)
  | ins e cl ha hn htk hm => exact .ins (s _ _ e) cl ha hn htk hm
end L2

set_option Elab.async false
set_option linter.all false
set_option maxRecDepth 100000
set_option maxHeartbeats 4000000
namespace PySem
def cloStep (env : Env) (x : Str × NameKind) (cs : List (Str × Addr)) : Sem (ForInStep (List (Str × Addr))) :=
  if (x.2 == NameKind.free) = true then do let c ← cellOf env x.1; pure (ForInStep.yield ((x.1, c) :: cs)) else pure (ForInStep.yield cs)
theorem clo_eq (scope : Scope) (env : Env) : closureFor scope env = (forIn scope.names ([] : List (Str × Addr)) (cloStep env) >>= fun cs => pure cs) := by
  unfold closureFor
  rfl
theorem clo_go {env : Env} : ∀ (l : List (Str × NameKind)) (acc : List (Str × Addr)), (∀ y ∈ l, y.2 = .free → ∃ c, env.cells.lookup y.1 = some c) → (∀ x c, acc.lookup x = some c → env.cells.lookup x = some c) →
    ∃ cl, (forIn l acc (cloStep env) : Sem _) = pure cl ∧ (∀ x c, cl.lookup x = some c → env.cells.lookup x = some c) ∧ (∀ x, (x, NameKind.free) ∈ l → ∃ c, cl.lookup x = some c) ∧ (∀ x c, acc.lookup x = some c → ∃ c, cl.lookup x = some c) ∧ (∀ x c, cl.lookup x = some c → (x, NameKind.free) ∈ l ∨ ∃ c', acc.lookup x = some c')
  | [], acc, _, ha => ⟨acc, rfl, ha, fun x h => (by cases h), fun x c h => ⟨c, h⟩, fun x c h => .inr ⟨c, h⟩⟩
  | (n, k) :: l, acc, h, ha => by
    by_cases hk : k = .free
    · subst hk
      obtain ⟨c, hc⟩ := h (n, .free) List.mem_cons_self rfl
      have ha' : ∀ x c', ((n, c) :: acc).lookup x = some c' → env.cells.lookup x = some c' := fun x c' e => by
        rw [List.lookup_cons] at e
        by_cases q : x = n
        · subst q
          simp at e
          rw [hc, e]
        · have : (x == n) = false := by simpa using q
          rw [this] at e
          exact ha x c' e
      obtain ⟨cl, e1, e2, e3, e4, e5⟩ := clo_go l ((n, c) :: acc) (fun y hy => h y (List.mem_cons_of_mem _ hy)) ha'
      refine ⟨cl, ?_, e2, fun x hx => ?_, fun x c' hx => ?_, fun x c' hx => ?_⟩
      · rw [List.forIn_cons]
        have : cloStep env (n, .free) acc = pure (ForInStep.yield ((n, c) :: acc)) := by
          simp only [cloStep, cellOf, hc]
          rfl
        rw [this, pure_bind]
        exact e1
      · rcases List.mem_cons.mp hx with q | q
        · cases q
          exact e4 n c (by simp)
        · exact e3 x q
      · by_cases q : x = n
        · subst q
          exact e4 x c (by simp)
        · have : (x == n) = false := by simpa using q
          exact e4 x c' (by rw [List.lookup_cons, this]; exact hx)
      · rcases e5 x c' hx with z | ⟨d, z⟩
        · exact .inl (List.mem_cons_of_mem _ z)
        · by_cases q : x = n
          · subst q
            exact .inl List.mem_cons_self
          · have : (x == n) = false := by simpa using q
            rw [List.lookup_cons, this] at z
            exact .inr ⟨d, z⟩
    · obtain ⟨cl, e1, e2, e3, e4, e5⟩ := clo_go l acc (fun y hy => h y (List.mem_cons_of_mem _ hy)) ha
      refine ⟨cl, ?_, e2, fun x hx => ?_, e4, fun x c' hx => (e5 x c' hx).imp (List.mem_cons_of_mem _) id⟩
      · rw [List.forIn_cons]
        have : cloStep env (n, k) acc = pure (ForInStep.yield acc) := by
          have z : (k == NameKind.free) = false := by simpa using hk
          simp only [cloStep, z]
          rfl
        rw [this, pure_bind]
        exact e1
      · rcases List.mem_cons.mp hx with q | q
        · cases q
          exact absurd rfl hk
        · exact e3 x q
theorem closure_of {scope : Scope} {env : Env} (h : ∀ y ∈ scope.names, y.2 = .free → ∃ c, env.cells.lookup y.1 = some c) :
    ∃ cl, closureFor scope env = pure cl ∧ (∀ x c, cl.lookup x = some c → env.cells.lookup x = some c) ∧ (∀ x, (x, NameKind.free) ∈ scope.names → ∃ c, cl.lookup x = some c) := by
  obtain ⟨cl, e1, e2, e3, _⟩ := clo_go scope.names [] h (fun x c e => by simp at e)
  exact ⟨cl, by rw [clo_eq, e1]; rfl, e2, e3⟩
end PySem
namespace L2
open PySem PySem.Spec PyProof.Rows
/-! ### a list comprehension: one for, at most one if; its block is a context of its own -/
abbrev cxComp (X : Cx) (N : List Str) (scope : Scope) (cl : List (Str × Addr)) (C : Addr) (s₀ : Shared) (H₀ : Hp) (ex : List Addr) : Cx where
  prog := X.prog
  w := X.w
  K := X.K
  mg := X.mg
  base := X.base
  A := X.A
  N := N
  s₀ := s₀
  H₀ := H₀
  env := compEnvC scope cl C X.env
  outer := X.stack
  stack := X.stack
  ex := ex
  fn := fun _ => false
  calm := X.calm
  pn := []
  xe := fun _ _ => False
def CTests (Y : Cx) (ifs : List Expr) (t : TT) : Prop :=
  ∀ (pins : List (Addr × Obj)) (s : Shared) (σ : St) (H : Hp) (Q : Bool → Hp → Prop), Inv Y pins σ H s → t σ H Q →
    wpAny (model Y.prog Y.w) Y.A (forIn ifs true fun c r => if r = true then do let ok ← isTrue c Y.env (eval c Y.env); pure (ForInStep.yield ok) else pure (ForInStep.yield r)) (TP Y pins σ Q) Y.xe s
def tYes : TT := fun _ H Q => Q true H
theorem ct_nil {Y : Cx} : CTests Y [] tYes := fun _ _ _ H _ I h => wpAny_tests_nil ⟨H, I, h⟩
def caps (σ : St) (js : List Nat) : St := js.map fun j => (σ[j]?).join
def CompGo (J : It) (js : List Nat) (tc : TT) (te : TE) (σ : St) (H1 : Hp) (Q : VK) : Prop :=
  ∀ D H2, Same H1 H2 → H1 D = none → H2 D = some (.lst []) → ∃ W : Nat → Nat → List V → Hp → Prop, (∃ m, W 0 m [] H2) ∧ ∀ i m acc H3, W i m acc H3 →
    H3 D = some (.lst acc) ∧ acc.length < sizeLine ∧ ((J.stop i H3 ∧ Q (.ref D) H3) ∨ (J.go i H3 ∧ ∀ x H4, J.yld i H3 x H4 →
      tc (some x :: caps σ js) H4 fun b H5 => if b = true then te (some x :: caps σ js) H5 fun v H6 => H6 D = some (.lst acc) ∧
          ∀ H7, (∀ b o, b ≠ D → H6 b = some o → H7 b = some o) → H7 D = some (.lst (acc ++ [v])) → ∃ m', m' < m ∧ W (i + 1) m' (acc ++ [v]) H7
        else ∃ m', m' < m ∧ W (i + 1) m' acc H5))
def tComp (wi : TI) (js : List Nat) (tc : TT) (te : TE) : TE := fun σ H Q => wi σ H fun J H1 => CompGo J js tc te σ H1 Q
structure CompScope (X : Cx) (scope : Scope) (x : Str) (N : List Str) (js : List Nat) : Prop where
  kind : scope.kind = .function
  nocell : ∀ y ∈ scope.names, y.2 ≠ .cell
  loc : ∀ y ∈ scope.names, y.2 = .local → scope.names.lookup y.1 = some .local
  own : scope.names.lookup x = some .local
  free : ∀ y ∈ scope.names, y.2 = .free → X.env.kindOf y.1 = some .cell
  nd : N.Nodup
  head : N[0]? = some x
  len : N.length = js.length + 1
  apart : ∀ y, scope.names.lookup y = some .local → (y, NameKind.free) ∉ scope.names
  cap : ∀ (k j : Nat) (y : Str), N[k + 1]? = some y → js[k]? = some j → X.N[j]? = some y ∧ Vis X.env.scope y ∧ X.env.kindOf y = some .cell ∧ (y, NameKind.free) ∈ scope.names
theorem CompScope.of {X : Cx} {scope : Scope} {x : Str} {N : List Str} {js : List Nat} (c1 : scope.kind = .function) (c2 : (scope.names.all fun y => y.2 != .cell) = true)
    (c3 : (scope.names.all fun y => y.2 != .local || scope.names.lookup y.1 == some .local) = true) (c4 : scope.names.lookup x = some .local) (c5 : (scope.names.all fun y => y.2 != .free || X.env.kindOf y.1 == some .cell) = true)
    (nd : N.Nodup) (hd : N[0]? = some x) (len : N.length = js.length + 1) (c6 : (scope.names.all fun y => y.2 != .free || scope.names.lookup y.1 != some .local) = true)
    (c7 : (((N.drop 1).zip js).all fun p => X.N[p.2]? == some p.1 && X.env.scope.names.lookup p.1 == some .cell && scope.names.contains (p.1, NameKind.free)) = true) : CompScope X scope x N js where
  kind := c1
  nocell := fun y hy e => by
    have := List.all_eq_true.mp c2 y hy
    rw [e] at this
    exact absurd this (by decide)
  loc := fun y hy e => by
    have := List.all_eq_true.mp c3 y hy
    rw [e] at this
    simpa using this
  own := c4
  free := fun y hy e => by
    have := List.all_eq_true.mp c5 y hy
    rw [e] at this
    simpa using this
  nd := nd
  head := hd
  len := len
  apart := fun y hl hm => by
    have := List.all_eq_true.mp c6 _ hm
    rw [hl] at this
    simp at this
  cap := fun k j y h1 h2 => by
    have hz : ((N.drop 1).zip js)[k]? = some (y, j) := by
      rw [List.getElem?_zip_eq_some]
      exact ⟨by rw [List.getElem?_drop, Nat.add_comm]; exact h1, h2⟩
    have := List.all_eq_true.mp c7 _ (List.mem_of_getElem? hz)
    simp only [Bool.and_eq_true, beq_iff_eq] at this
    obtain ⟨⟨a, b⟩, c⟩ := this
    exact ⟨a, .inr (.inl b), b, by simpa using c⟩
theorem relabel_cell {scope : Scope} {env : Env} {y : Str} {k : NameKind} (h : (relabel scope env).names.lookup y = some k) (hk : k = .cell ∨ k = .free) (nocell : ∀ z ∈ scope.names, z.2 ≠ .cell) : (y, NameKind.free) ∈ scope.names := by
  have hm := PySem.mem_of_lookup h
  obtain ⟨⟨n, k'⟩, hn, e⟩ := List.mem_map.mp hm
  dsimp only at e
  by_cases c : (k' == NameKind.free && env.scope.kind == .function && env.kindOf n == some .cell) = true
  · rw [if_pos c] at e
    have ek : k' = .free := by
      simp only [Bool.and_eq_true, beq_iff_eq] at c
      exact c.1.1
    cases e
    rw [← ek]
    exact hn
  · rw [if_neg c] at e
    cases e
    rcases hk with rfl | rfl
    · exact absurd rfl (nocell _ hn)
    · exact hn
theorem pe_comp {X : Cx} {iter elt : Expr} {x : Str} {px : Pos} {ifs : List Expr} {scope : Scope} {pos : Pos} {wi : TI} {N : List Str} {js : List Nat} {tc : TT} {te : TE}
    (hc : X.calm = true) (S : CompScope X scope x N js) (hi : PI X (.Name x px) iter wi)
    (ht : ∀ cl C s₀ H₀ ex, CTests (cxComp X N scope cl C s₀ H₀ ex) ifs tc) (he : ∀ cl C s₀ H₀ ex, PE (cxComp X N scope cl C s₀ H₀ ex) elt te)
    (hs : ∀ x, foldedSetIterable iter X.env x = pure x := by intro _; rfl) :
    PE X (.ListComp elt [⟨.Name x px, iter, ifs, 0⟩] scope pos) (tComp wi js tc te) := by
  with_unfolding_all
    intro pins s σ H Q I h
    have hcells : ∀ y ∈ scope.names, y.2 = .free → ∃ c, X.env.cells.lookup y.1 = some c := fun y hy hf => I.ok.has y.1 (.inl (S.free y hy hf))
    obtain ⟨cl, ecl, cl1, cl2⟩ := closure_of hcells
    rw [eval_ListComp]
    refine wpAny_comprehension_free (use := none) rfl hs ecl S.kind S.loc (thn (hi pins s σ H _ I h) fun v s1 h1 => thn h1 fun itv s2 h2 => ?_)
    obtain ⟨it, fp, tn, J, H2, e, I2, T, st2, f2, q2⟩ := h2
    subst e
    refine wpAny_newObj_type (wpAny_newFunctionEnv S.nocell (by intro y hy; simp at hy) (fun h₁ hns₁ hsb₁ => ?_) S.kind)
    dsimp only at hns₁ hsb₁ ⊢
    generalize hP2 : s2.heap.push { cls := .type "list", dict := none, data := .seq ([] : List Value).toArray } = P2 at hns₁ hsb₁ ⊢
    have hC : P2.objs.size = s2.heap.objs.size + 1 := by rw [← hP2, Heap.size_push]
    have below : ∀ b, b < s2.heap.objs.size → b ≠ P2.objs.size ∧ b ≠ s2.heap.objs.size := fun b hb => ⟨by rw [hC]; exact Nat.ne_of_lt (Nat.lt_succ_of_lt hb), Nat.ne_of_lt hb⟩
    have hDC : s2.heap.objs.size ≠ P2.objs.size := by rw [hC]; exact Nat.ne_of_lt (Nat.lt_succ_self _)
    have old : ∀ b o, s2.heap.get? b = some o → h₁.get? b = some o := fun b o e => hsb₁.extBut b o (below b (Heap.lt_size e)).1 (Heap.get?_push_of_some _ (hP2 ▸ Heap.get?_push_of_some _ e))
    have hD : h₁.get? s2.heap.objs.size = some { cls := .type "list", dict := none, data := .seq ([] : List Value).toArray } := hsb₁.extBut _ _ hDC (Heap.get?_push_of_some _ (hP2 ▸ Heap.get?_push_size _ rfl))
    have hDn : H2 s2.heap.objs.size = none := I2.hok.fresh (Nat.le_refl _)
    have hCn : H2 P2.objs.size = none := I2.hok.fresh (by rw [hC]; exact Nat.le_succ _)
    obtain ⟨W, ⟨m0, w0⟩, turn⟩ := q2 s2.heap.objs.size _ (same_new hDn (.lst [])) hDn upd_same
    -- the block's context
    have fpl : ∀ b ∈ fp, b < s2.heap.objs.size := fun b hb => by
      obtain ⟨o, e, _⟩ := T.obj 0 _ st2 b hb
      exact Heap.lt_size e
    have yok : (cxComp X N scope cl P2.objs.size s2 H2 fp).Ok :=
      { mod := I2.ok.mod
        kind := S.kind
        glob := I2.ok.glob
        blt := I2.ok.blt
        above := by show s2.heap.objs.size ≤ P2.objs.size; rw [hC]; exact Nat.le_succ _
        inj := fun y z c h1 h2 => I2.ok.inj y z c (cl1 y c h1) (cl1 z c h2)
        has := fun y hy => by
          have hy' : (y, NameKind.free) ∈ scope.names := by
            rcases hy with hy | hy
            · exact relabel_cell (env := X.env) hy (.inl rfl) S.nocell
            · exact relabel_cell (env := X.env) hy (.inr rfl) S.nocell
          exact cl2 y hy'
        cab := fun y c hf _ => by cases hf
        hd := fun hc' => I2.ok.hd hc'
        frames := I2.ok.frames
        stk := .inl rfl
        exf := fun b hb => ⟨(below b (fpl b hb)).1, fun y c e => (f2 b hb).2.2.2.2.1 y c (cl1 y c e)⟩
        bs := I2.bs
        bsz := Nat.le_trans I2.ok.bsz I2.sz
        noex := fun b o e hb => by
          rcases (f2 b hb).2.2.2.1 with z | z
          · exact I2.ok.noex b o e z
          · exact absurd (Nat.lt_of_lt_of_le (Nat.lt_of_lt_of_le (Heap.lt_size e) I2.ok.bsz) z) (Nat.lt_irrefl _)
        exfs := fun b hb hf => by
          rcases List.mem_cons.mp (I2.stkSub b hf) with z | z
          · exact (f2 b hb).2.1 z
          · exact (f2 b hb).2.2.1 z
        funs := I2.stack
        frf := I2.stkFree }
    have hokD : HOk X.prog X.w (upd H2 s2.heap.objs.size (.lst [])) h₁ := I2.hok.laid old (Nat.le_refl _) ⟨Nat.zero_le _, [], 0, .nil, hD⟩
    have I3 : Inv (cxComp X N scope cl P2.objs.size s2 H2 fp) [] (none :: caps σ js) (upd H2 s2.heap.objs.size (.lst [])) { s2 with heap := h₁, toks := s2.toks + ([] : List (Str × Value)).length } :=
      { ok := yok
        os := rfl
        bare := I2.bare
        base := Un.laid old (Nat.le_refl _) hDn
        loc := by
          refine ⟨_, hns₁, fun i y v e1 e2 e3 => ?_⟩
          cases i with
          | zero => simp at e2
          | succ k =>
            have e2' : (caps σ js)[k]? = some (some v) := by simpa using e2
            unfold caps at e2'
            rw [List.getElem?_map] at e2'
            cases ej : js[k]? with
            | none => rw [ej] at e2'; cases e2'
            | some j =>
              rw [ej] at e2'
              have e4 : (σ[j]?).join = some v := Option.some.inj e2'
              have e5 : σ[j]? = some (some v) := by
                cases eσ : σ[j]? with
                | none => rw [eσ] at e4; cases e4
                | some o => rw [eσ] at e4; exact congrArg some e4
              obtain ⟨n1, n2, n3, n4⟩ := S.cap k j y e1 ej
              obtain ⟨mX, _, lX⟩ := I2.loc
              obtain ⟨u, ru, lk⟩ := lX j y v n1 e5 n2
              refine ⟨u, ru, ?_⟩
              rcases lk with ⟨lk, _⟩ | ⟨_, c, ec, cell⟩
              · rw [n3] at lk; cases lk
              · obtain ⟨c', ec'⟩ := cl2 y n4
                have : c' = c := Option.some.inj ((cl1 y c' ec').symm.trans ec)
                subst this
                obtain ⟨o, ho, hd⟩ := cell
                refine .inr ⟨?_, c', ec', ⟨o, old _ _ ho, hd⟩⟩
                -- the name is a cell or free in the block
                have e3' : (relabel scope X.env).names.lookup y = some .local ∨ (relabel scope X.env).names.lookup y = some .cell ∨ (relabel scope X.env).names.lookup y = some .free := e3
                rcases e3' with z | z | z
                · exfalso
                  have hm := PySem.mem_of_lookup z
                  obtain ⟨⟨n, k'⟩, hn, e⟩ := List.mem_map.mp hm
                  dsimp only at e
                  by_cases cc : (k' == NameKind.free && X.env.scope.kind == .function && X.env.kindOf n == some .cell) = true
                  · rw [if_pos cc] at e
                    cases e
                  · rw [if_neg cc] at e
                    cases e
                    have l1 := S.loc _ hn rfl
                    have l2 := lookup_relabel_local (env := X.env) l1
                    have f1 := S.free _ n4 rfl
                    exact S.apart y l1 n4
                · exact .inl z
                · exact .inr z
        cell := fun y c e => by
          obtain ⟨v, o, ho, hd⟩ := I2.cell y c (cl1 y c e)
          exact ⟨v, o, old _ _ ho, hd⟩
        free := by show upd H2 s2.heap.objs.size (.lst []) P2.objs.size = none; rw [upd_ne (Ne.symm hDC)]; exact hCn
        freeC := fun y c e => by
          obtain ⟨v, o, ho, hd⟩ := I2.cell y c (cl1 y c e)
          rw [upd_ne (below c (Heap.lt_size ho)).2]
          exact I2.freeC y c (cl1 y c e)
        pin := fun p hp => by simp at hp
        hok := hokD
        len := by show (none :: caps σ js).length = N.length; rw [S.len]; simp [caps] }
    have st3 : tn 0 h₁ := T.keep 0 _ _ st2 fun b _ o e => old b o e
    have fr3 : ∀ b ∈ fp, (upd H2 s2.heap.objs.size (.lst [])) b = none := fun b hb => by
      rw [upd_ne (below b (fpl b hb)).2]
      exact (f2 b hb).1
    -- what stays true of the iterator's objects
    have stat : ∀ {H' : Hp}, (∀ b ∈ fp, H' b = none) → ∀ b ∈ fp, FpOk (cxComp X N scope cl P2.objs.size s2 H2 fp) [] H' b := fun hn b hb =>
      ⟨hn b hb, (below b (fpl b hb)).1, yok.exfs b hb, .inl hb, fun y c e => (f2 b hb).2.2.2.2.1 y c (cl1 y c e), fun p hp => by simp at hp⟩
    have pgn : PG (cxComp X N scope cl P2.objs.size s2 H2 fp) (.Name x px) (gName 0) := pg_name S.nd S.head (.inl (lookup_relabel_local S.own)) (.inr (lookup_relabel_local S.own))
    have loop : ∀ s₃ : Shared, s₃ = { s2 with heap := h₁, toks := s2.toks + ([] : List (Str × Value)).length } →
        codeAny (model X.prog X.w) X.A (.compLoop (.ListComp elt [⟨.Name x px, iter, ifs, 0⟩] scope pos) 0 (.ref it) (.ref s2.heap.objs.size) (compEnvC scope cl P2.objs.size X.env))
          (compPost (model X.prog X.w) X.A X.xe none (EP X pins σ Q) (.ref s2.heap.objs.size) P2.objs.size) s₃ := by
      rintro s₃ rfl
      refine codeAny_loop rfl (fun n s' => ∃ i o acc H', Inv (cxComp X N scope cl P2.objs.size s2 H2 fp) [] (o :: caps σ js) H' s' ∧ tn i s'.heap ∧ (∀ b ∈ fp, H' b = none) ∧ W i n acc H') ?_ m0 ⟨0, none, [], _, I3, st3, fr3, w0⟩
      rintro n s4 ⟨i, o, acc, H4, I4, st4, fr4, w4⟩
      show wpAny _ X.A ((compTurn (.ListComp elt [⟨.Name x px, iter, ifs, 0⟩] scope pos) 0 (.ref it) (.ref s2.heap.objs.size) (compEnvC scope cl P2.objs.size X.env)).onRaise (fun x => do noteFrame x (compEnvC scope cl P2.objs.size X.env); theTreesLotGoes x)) _ _ s4
      refine wpAny_noted ?_
      rw [compTurn_list]
      refine wpAny_bind (wpAny_standAt (wpAny_bind ?_))
      obtain ⟨hD4, hz4, alt⟩ := turn i n acc H4 w4
      rcases alt with ⟨stop, qn⟩ | ⟨go, step⟩
      · refine thn (T.done (cxComp X N scope cl P2.objs.size s2 H2 fp) rfl rfl rfl hc i [] s4 _ H4 _ I4 (stat fr4) st4 stop) fun r s5 ⟨hr, I5⟩ => ?_
        subst hr
        refine wpAny_pure ?_
        obtain ⟨m5, n5, _⟩ := I5.loc
        refine ⟨m5, n5, fun h' sb => ⟨.ref s2.heap.objs.size, H4, ?_, rfl, qn⟩⟩
        have k5 : ∀ b o, b ≠ P2.objs.size → s5.heap.get? b = some o → h'.get? b = some o := fun b o hb e => sb.extBut b o hb e
        have u5 := I5.base
        have nC : ∀ b o, s2.heap.get? b = some o → b ≠ P2.objs.size := fun b o e => (below b (Heap.lt_size e)).1
        refine I2.call' (s' := { s5 with heap := h' }) (ch := fp) I5.os ?_ ?_ I5.bare fun b hb => ⟨(f2 b hb).2.2.2.1, (f2 b hb).2.1, (f2 b hb).2.2.2.2.1, (f2 b hb).2.2.2.2.2⟩
        · refine ⟨fun b o e n1 n2 n3 => k5 b o (nC b o e) (u5.keep b o e n1 n2 n3), fun b o e n1 n2 n3 => ?_, u5.free, fun b o e n3 => ?_, u5.tups, u5.frzs, u5.tbls⟩
          · obtain ⟨sl, z⟩ := u5.slot b o e n1 n2 n3
            exact ⟨sl, k5 b _ (nC b o e) z⟩
          · obtain ⟨o', z⟩ := u5.there b o e n3
            exact ⟨o', k5 b o' (nC b o e) z⟩
        · intro b u e
          refine (I5.hok b u e).stay (fun c v hc q => k5 c v ?_ q) (fun _ q => q) (fun _ _ q => q) fun _ _ _ q => q
          rintro rfl
          rcases hc with z | z
          · rw [← z, show H4 P2.objs.size = none from I5.free] at e; cases e
          · have := I5.free
            rw [show H4 P2.objs.size = none from I5.free] at z
            cases z
      · refine thn (T.item (cxComp X N scope cl P2.objs.size s2 H2 fp) rfl rfl rfl hc i [] s4 _ H4 _ I4 (stat fr4) st4 go) fun r s5 ⟨u, hr, h5⟩ => ?_
        subst hr
        refine wpAny_bind (thn h5 fun _ s6 ⟨y, H6, I6, r6, y6, st6, fr6⟩ => ?_)
        have I6' := I6.pinned (stat fr6) (T.obj _ _ st6)
        refine wpAny_bind (wpAny_mono (pgn _ s6 (o :: caps σ js) H6 y u (fun σ' H' => σ' = some y :: caps σ js ∧ H' = H6) I6' r6 ⟨rfl, rfl⟩) (fun _ s7 ⟨σ7, H7, I7, e7, e8⟩ => ?_) fun _ _ z => z.elim)
        subst e7 e8
        have back : ∀ {s9 : Shared} {H9 : Hp} {acc9 : List V} {m9 : Nat}, Inv (cxComp X N scope cl P2.objs.size s2 H2 fp) ([] ++ pinsAt fp s6.heap) (some y :: caps σ js) H9 s9 → m9 < n → W (i + 1) m9 acc9 H9 →
            ∃ m, m < n ∧ ∃ i o acc H', Inv (cxComp X N scope cl P2.objs.size s2 H2 fp) [] (o :: caps σ js) H' s9 ∧ tn i s9.heap ∧ (∀ b ∈ fp, H' b = none) ∧ W i m acc H' := fun {s9 H9 acc9 m9} I9 hm w9 => by
          refine ⟨m9, hm, i + 1, some y, acc9, H9, I9.unpinned, T.keep _ _ _ st6 fun b hb o e => (I9.pin (b, o) (List.mem_append_right _ (List.mem_append_right _ (mem_pinsAt hb e)))).1, fun b hb => ?_, w9⟩
          obtain ⟨o, e, d⟩ := T.obj _ _ st6 b hb
          exact (I9.pin (b, o) (List.mem_append_right _ (List.mem_append_right _ (mem_pinsAt hb e)))).2.1
        refine wpAny_bind (wpAny_mono (ht cl _ s2 H2 fp _ s7 _ _ _ I7 (step y _ y6)) (fun ok s8 ⟨H8, I8, q8⟩ => ?_) fun _ _ z => z.elim)
        cases ok with
        | false =>
          obtain ⟨m9, hm, w9⟩ := q8
          exact wpAny_pure ⟨rfl, back I8 hm w9⟩
        | true =>
          refine wpAny_bind (wpAny_bind (wpAny_mono (he cl _ s2 H2 fp _ s8 _ _ _ I8 q8) (fun xv s9 ⟨v9, H9, I9, r9, hD9, q9⟩ => ?_) fun _ _ z => z.elim))
          refine wpAny_bind (wpAny_mono (mt_append (X := cxComp X N scope cl P2.objs.size s2 H2 fp) _ s9 _ H9 (.ref s2.heap.objs.size) [v9] (.ref s2.heap.objs.size) [xv] (fun _ H' => H' = upd H9 s2.heap.objs.size (.lst (acc ++ [v9]))) I9 rfl (.cons r9 .nil) ⟨_, acc, v9, rfl, rfl, hD9, hz4, rfl⟩) (fun _ s10 ⟨v10, H10, I10, _, e10⟩ => ?_) fun _ _ z => z.elim)
          subst e10
          obtain ⟨m9, hm, w9⟩ := q9 _ (fun b o hb e => by rw [upd_ne hb]; exact e) upd_same
          exact wpAny_pure (wpAny_pure ⟨rfl, back I10 hm w9⟩)
    exact codeAny_compStart_list (loop _ rfl) (T.self _ 0 _ _ _ st3 (loop _ rfl))
end L2

namespace M1
def gd (x y : Int) : Int := ((Int.gcd x y : Nat) : Int)
theorem gd_zero {x : Int} (h : 0 ≤ x) : gd x 0 = x := by
  unfold gd
  rw [Int.gcd_zero_right]
  omega
theorem gd_step {x y : Int} : gd y (x % y) = gd x y := by
  unfold gd
  have e : x % y = x + y * (-(x / y)) := by
    rw [Int.mul_neg, Int.emod_def]
    omega
  rw [Int.gcd_comm y, e, Int.gcd_add_mul_left_left]
theorem gd_abs (x y : Int) : gd (if x < 0 then -x else x) y = gd x y := by
  unfold gd
  split
  · rw [Int.neg_gcd]
  · rfl
theorem gd_pos {x y : Int} (h : 0 < y) : 0 < gd x y := by
  have : 0 < Int.gcd x y := Int.gcd_pos_of_ne_zero_right x (by omega)
  unfold gd
  omega
theorem gd_dvd_left (x y : Int) : gd x y ∣ x := Int.gcd_dvd_left x y
theorem gd_dvd_right (x y : Int) : gd x y ∣ y := Int.gcd_dvd_right x y
theorem gd_le {x y : Int} (h : 0 < y) : gd x y ≤ y := Int.le_of_dvd h (gd_dvd_right x y)
theorem gd_low {t b : Int} (h : 0 < b) : gd (t / gd t b) (b / gd t b) = 1 := by
  have e := Int.gcd_ediv_gcd_ediv_gcd (i := t) (j := b) (Int.gcd_pos_of_ne_zero_right t (by omega))
  unfold gd
  rw [e]
  rfl
theorem low_bot {t b : Int} (h : 0 < b) : 1 ≤ b / gd t b := by
  have g := gd_pos (x := t) h
  have d := Int.ediv_mul_cancel (gd_dvd_right t b)
  by_cases q : b / gd t b < 1
  · have := Int.mul_le_mul_of_nonneg_right (a := b / gd t b) (b := 0) (c := gd t b) (by omega) (by omega)
    omega
  · omega
theorem low_bot_le {t b : Int} (h : 0 < b) : b / gd t b ≤ b := Int.ediv_le_self (gd t b) (by omega)
theorem gd_mul {t b c : Int} (h : 0 < c) : gd (t * c) (b * c) = gd t b * c := by
  unfold gd
  rw [Int.gcd_mul_right]
  have e : ((c.natAbs : Nat) : Int) = c := by omega
  rw [Int.natCast_mul, e]
theorem low_scale {t b c : Int} (hb : 0 < b) (h : 0 < c) : t * c / gd (t * c) (b * c) = t / gd t b ∧ b * c / gd (t * c) (b * c) = b / gd t b := by
  rw [gd_mul h]
  exact ⟨Int.mul_ediv_mul_of_pos_left t (gd t b) h, Int.mul_ediv_mul_of_pos_left b (gd t b) h⟩
theorem low_eq {t b u c : Int} (hb : 0 < b) (hc : 0 < c) (e : t * c = u * b) : t / gd t b = u / gd u c ∧ b / gd t b = c / gd u c := by
  have h1 := low_scale (t := t) hb hc
  have h2 := low_scale (t := u) hc hb
  rw [e, Int.mul_comm b c] at h1
  exact ⟨h1.1.symm.trans h2.1, h1.2.symm.trans h2.2⟩
theorem low_one {t b : Int} (h : gd t b = 1) : t / gd t b = t ∧ b / gd t b = b := by
  rw [h, Int.ediv_one, Int.ediv_one]
  exact ⟨rfl, rfl⟩
end M1

set_option Elab.async false
set_option linter.all false
namespace M2
open PySem PySem.NumText
/-! ### what is read -/
end M2

set_option Elab.async false
set_option linter.all false
set_option maxRecDepth 100000
set_option maxHeartbeats 4000000
namespace L2
open PySem PySem.Spec PyProof.Rows
/-! ## texts -/
def Its (x : Str) : It := ⟨fun i _ => i < x.cps.size, fun i H v H' => H' = H ∧ ∃ c, x.cps[i]? = some c ∧ v = .str ⟨#[c]⟩, fun i _ => x.cps.size ≤ i⟩
theorem turn_strA {P : Program} {w : World} {K : PySem.W.Frag} {tg : Expr} (x : Str) (t : Tok) (it : Addr) : Turn P w K tg (Its x) [it] it (fun i h => h.IsStrIter it "str_ascii_iterator" x t i) where
  mem := by simp
  obj := fun i h st b hb => by
    have e : b = it := by simpa using hb
    subst e
    obtain ⟨o, e, c, d⟩ := st
    exact ⟨o, e, fun v z => by rw [d] at z; cases z⟩
  keep := fun i h h' st k => let ⟨o, ho, r⟩ := st; ⟨o, k it (by simp) o ho, r⟩
  item := by
    intro X hP hw hK hc i pins s σ H E I hf st hg
    subst hP hw hK
    have hg : i < x.cps.size := hg
    obtain ⟨f0, f1, f2, f3, f4, f5⟩ := hf it (by simp)
    refine wpAny_pyNext_ascii_item st (c := x.cps[i]) (by simp [hg]) fun h' st' sb => ?_
    have I1 : Inv X pins σ H { s with heap := h', toks := s.toks + 1 } := I.turned (fun b o hb e => (sb.2 b hb).trans e) f0 f1 f3 f4 f5
    obtain ⟨o, e, c, d⟩ := id st'
    exact ⟨_, rfl, go_of (s := { s with heap := h', toks := s.toks + 1 }) e c d (by decide) ⟨.str ⟨#[x.cps[i]]⟩, H, I1, ⟨_, rfl⟩, ⟨rfl, _, by simp [hg], rfl⟩, st', fun b hb => (hf b hb).1⟩⟩
  done := by
    intro X hP hw hK hc i pins s σ H E I hf st hg
    subst hP hw hK
    have hg : x.cps.size ≤ i := hg
    obtain ⟨f0, f1, f2, f3, f4, f5⟩ := hf it (by simp)
    exact wpAny_pyNext_ascii_end (I.ok.hd hc) st (by simp; omega) fun h' eb => ⟨rfl, I.turned (t' := s.toks) (fun b o hb e => eb b o hb e) f0 f1 f3 f4 f5⟩
  self := fun _ _ _ _ _ st h => wpAny_pyIter_striter_ascii st h
theorem turn_strW {P : Program} {w : World} {K : PySem.W.Frag} {tg : Expr} (x : Str) (t : Tok) (it : Addr) : Turn P w K tg (Its x) [it] it (fun i h => h.IsStrIter it "str_iterator" x t i) where
  mem := by simp
  obj := fun i h st b hb => by
    have e : b = it := by simpa using hb
    subst e
    obtain ⟨o, e, c, d⟩ := st
    exact ⟨o, e, fun v z => by rw [d] at z; cases z⟩
  keep := fun i h h' st k => let ⟨o, ho, r⟩ := st; ⟨o, k it (by simp) o ho, r⟩
  item := by
    intro X hP hw hK hc i pins s σ H E I hf st hg
    subst hP hw hK
    have hg : i < x.cps.size := hg
    obtain ⟨f0, f1, f2, f3, f4, f5⟩ := hf it (by simp)
    refine wpAny_pyNext_wide_item st (c := x.cps[i]) (by simp [hg]) fun h' st' sb => ?_
    have I1 : Inv X pins σ H { s with heap := h', toks := s.toks + 1 } := I.turned (fun b o hb e => (sb.2 b hb).trans e) f0 f1 f3 f4 f5
    obtain ⟨o, e, c, d⟩ := id st'
    exact ⟨_, rfl, go_of (s := { s with heap := h', toks := s.toks + 1 }) e c d (by decide) ⟨.str ⟨#[x.cps[i]]⟩, H, I1, ⟨_, rfl⟩, ⟨rfl, _, by simp [hg], rfl⟩, st', fun b hb => (hf b hb).1⟩⟩
  done := by
    intro X hP hw hK hc i pins s σ H E I hf st hg
    subst hP hw hK
    have hg : x.cps.size ≤ i := hg
    obtain ⟨f0, f1, f2, f3, f4, f5⟩ := hf it (by simp)
    exact wpAny_pyNext_wide_end (I.ok.hd hc) st (by simp; omega) fun h' eb => ⟨rfl, I.turned (t' := s.toks) (fun b o hb e => eb b o hb e) f0 f1 f3 f4 f5⟩
  self := fun _ _ _ _ _ st h => wpAny_pyIter_striter_wide st h
section
variable {X : Cx} {tg : Expr}
def iStr (tl : TE) : TI := fun σ H R => tl σ H fun v H1 => ∃ x, v = .str x ∧ R (Its x) H1
theorem pi_str {l : Expr} {tl : TE} (hl : PE X l tl) : PI X tg l (iStr tl) := by
  with_unfolding_all
    intro pins s σ H R I h
    refine thn (hl pins s σ H _ I h) fun v s1 ⟨y, H1, I1, r1, q1⟩ => ?_
    obtain ⟨x, e, q⟩ := q1
    subst e
    obtain ⟨t, rfl⟩ := r1
    have fin : ∀ b, b ∈ [s1.heap.objs.size] → FpOk X pins H1 b := fun b hb => by
      have e : b = s1.heap.objs.size := by simpa using hb
      subst e
      exact I1.fpOk (Nat.le_refl _) (I1.hok.fresh (Nat.le_refl _))
    cases ha : x.cps.all (· < 128) with
    | true => exact wpAny_pyIter_ascii ha ⟨s1.heap.objs.size, [s1.heap.objs.size], _, _, H1, rfl, I1.kept (t' := s1.toks) fun b o e => Heap.get?_push_of_some _ e, turn_strA x t _, ⟨_, Heap.get?_push_size _ rfl, rfl, rfl⟩, fin, q⟩
    | false => exact wpAny_pyIter_wide ha ⟨s1.heap.objs.size, [s1.heap.objs.size], _, _, H1, rfl, I1.kept (t' := s1.toks) fun b o e => Heap.get?_push_of_some _ e, turn_strW x t _, ⟨_, Heap.get?_push_size _ rfl, rfl, rfl⟩, fin, q⟩
theorem comp_str {x : Str} {js : List Nat} {tc : TT} {te : TE} {σ : St} {H1 : Hp} {Q : VK} (p : Nat → Bool) (f : Nat → V)
    (ht : ∀ c Hh (Q' : Bool → Hp → Prop), Q' (p c) Hh → tc (some (.str ⟨#[c]⟩) :: caps σ js) Hh Q') (he : ∀ c Hh (Q' : VK), Q' (f c) Hh → te (some (.str ⟨#[c]⟩) :: caps σ js) Hh Q')
    (hz : x.length < sizeLine) (q : ∀ D H2, Same H1 H2 → H2 D = some (.lst ((x.cps.toList.filter p).map f)) → Q (.ref D) H2) :
    CompGo (Its x) js tc te σ H1 Q := by
  intro D H2 s2 hD h2
  refine ⟨fun i m acc H3 => m = x.cps.size - i ∧ i ≤ x.cps.size ∧ acc = ((x.cps.toList.take i).filter p).map f ∧ Same H1 H3 ∧ H3 D = some (.lst acc), ⟨_, rfl, Nat.zero_le _, by simp, s2, h2⟩, ?_⟩
  rintro i m acc H3 ⟨rfl, hi, ea, s3, h3⟩
  have hl : acc.length ≤ x.length := by
    rw [ea, List.length_map]
    refine Nat.le_trans (List.length_filter_le _ _) ?_
    rw [List.length_take]
    exact Nat.le_trans (Nat.min_le_right _ _) (Nat.le_of_eq Array.length_toList)
  refine ⟨h3, by omega, ?_⟩
  by_cases hlt : i < x.cps.size
  · refine .inr ⟨hlt, fun y H4 z => ?_⟩
    obtain ⟨e, c, hc, ey⟩ := z
    subst e ey
    have hc' : x.cps.toList[i]? = some c := by rw [Array.getElem?_toList]; exact hc
    refine ht c _ _ ?_
    have tk : (x.cps.toList.take (i + 1)).filter p = (x.cps.toList.take i).filter p ++ (if p c = true then [c] else []) := take_succ_filter p _ i c hc'
    cases hp : p c with
    | true =>
      refine iteT (he c _ _ ⟨h3, fun H7 k7 h7 => ⟨x.cps.size - (i + 1), by omega, rfl, hlt, ?_, fun b o e => ?_, h7⟩⟩)
      · rw [tk, hp, if_pos rfl, List.map_append, ← ea]
        rfl
      · by_cases hb : b = D
        · subst hb
          rw [hD] at e
          cases e
        · exact k7 b o hb (s3 b o e)
    | false =>
      refine iteF ⟨x.cps.size - (i + 1), by omega, rfl, hlt, ?_, s3, h3⟩
      rw [tk, hp, if_neg Bool.false_ne_true, List.append_nil]
      exact ea
  · have e : i = x.cps.size := by omega
    subst e
    refine .inl ⟨Nat.le_refl _, ?_⟩
    have et : x.cps.toList.take x.cps.size = x.cps.toList := List.take_of_length_le (Nat.le_of_eq Array.length_toList)
    rw [et] at ea
    rw [ea] at h3
    exact q D _ s3 h3
/-! slices, comparisons, methods -/
theorem op_le_str : OpR X (compareOp .LtE) (fun x y H Q => ∃ i j, x = .str i ∧ y = .str j ∧ Q (.bl (!decide (j.cps.toList < i.cps.toList))) H) := by
  intro pins s σ H x y v u Q I rx ry h
  obtain ⟨i, j, rfl, rfl, q⟩ := h
  obtain ⟨t, rfl⟩ := rx
  obtain ⟨t', rfl⟩ := ry
  exact PySem.P.le_str (fin_bl I q rfl)
theorem all_range (bs : List Bool) : (List.range bs.length).all (fun i => (bs[i]?).getD true) = bs.all id := by
  induction bs with
  | nil => rfl
  | cons b r ih =>
    rw [List.length_cons, List.range_succ_eq_map, List.all_cons, List.all_map, List.all_cons, ← ih]
    rfl
theorem call_allB (hc : X.calm = true) : CallR X (.builtin "all") (fun xs H Q => ∃ (p : Addr) (bs : List Bool), xs = [.ref p] ∧ SqL X.K H p (bs.map V.bl) ∧ Q (.bl (bs.all id)) H) := by
  intro pins s σ H xs us Q I r h
  obtain ⟨p, bs, rfl, hq, q⟩ := h
  obtain ⟨u, rfl, ru⟩ := vals1 r
  cases ru
  obtain ⟨its, rv, pl, hz⟩ := I.list hq
  have lt : p < s.heap.objs.size := by
    obtain ⟨o, ho, _⟩ := pl.isList
    exact Heap.lt_size ho
  have hl : its.toArray.size = bs.length := by
    have := rv.length
    simp at this ⊢
    omega
  refine call_all_walk (wpAny_pyIter_list pl.isList ?_)
  refine ⟨s.heap.objs.size, _, _, _, _, _, fun i => (bs[i]?).getD true, rfl, Walks.list (prog := X.prog) (w := X.w) (A := X.A.in1) (show X.A.in1.handled = none from I.ok.hd hc) _ p (Nat.ne_of_lt lt) its.toArray, ⟨⟨_, Heap.get?_push_size _ rfl, rfl, rfl⟩, pl.isList.at fun o e => Heap.get?_push_of_some _ e⟩, fun i v s' Q' E' hP hQ' => ?_, fun h' tk kk => ?_⟩
  · have hP' : its[i]? = some v := by simpa using hP
    cases e : bs[i]? with
    | none =>
      have h1 : its.length ≤ i := by
        have h2 := List.getElem?_eq_none_iff.mp e
        simp at hl
        omega
      rw [List.getElem?_eq_none h1] at hP'
      cases hP'
    | some b =>
      dsimp only at hQ'
      rw [e] at hQ'
      obtain ⟨u, hu, ru⟩ := rv.get (i := i) (x := .bl b) (by rw [List.getElem?_map, e]; rfl)
      rw [hP'] at hu
      cases hu
      cases (show v = Value.bool b from ru)
      exact wpAny_truthy_bool hQ'
  · rw [hl, all_range]
    refine ⟨.bl _, H, I.kept (t' := tk) (h' := h') fun b o e => kk b o ?_ (Heap.get?_push_of_some _ e), rfl, q⟩
    intro z
    have z : b = s.heap.objs.size := by simpa using z
    exact Nat.ne_of_lt (Heap.lt_size e) z
end
theorem len_cps (x : Str) : x.cps.toList.length = x.length := Array.length_toList
theorem lt_1 (c a : Nat) : decide ([c] < [a]) = decide (c < a) := by
  rw [Bool.eq_iff_iff, decide_eq_true_iff, decide_eq_true_iff, List.cons_lt_cons_iff]
  simp
theorem le_1 {x y : Str} {c a : Nat} (hx : x.cps.toList = [c]) (hy : y.cps.toList = [a]) : (!decide (y.cps.toList < x.cps.toList)) = decide (c ≤ a) := by
  rw [hx, hy, lt_1]
  rw [Bool.eq_iff_iff]
  simp
theorem big100 {n : Nat} (h : n ≤ 1000) : n ≤ sizeLine := sz n h
end L2

set_option Elab.async false
set_option linter.all false
set_option maxRecDepth 100000
set_option maxHeartbeats 4000000
namespace L2
open PySem PySem.Spec PyProof.Rows
/-! ## f-strings -/
abbrev TJ := Str → St → Hp → VK → Prop
section
variable {X : Cx} {e : Expr} {es : List Expr} {te : TE} {t : TJ} {pos : Pos}
/-! ## a loop, a word between: kept shut for the reading's own tactic -/
structure Box (P : Prop) : Prop where
  un : P
end
theorem at_any {xs : List V} (n : Int) {m : Int} (hm : m = (xs.length : Int)) (h : xs ≠ []) : ∃ v, atI xs (n % m) = some v ∧ v ∈ xs := by
  subst hm
  have h0 : 0 < xs.length := List.length_pos_iff.mpr h
  have e0 := Int.emod_nonneg n (show ((xs.length : Nat) : Int) ≠ 0 by omega)
  have e1 := Int.emod_lt_of_pos n (show (0 : Int) < ((xs.length : Nat) : Int) by omega)
  have hk : (n % ((xs.length : Nat) : Int)).toNat < xs.length := by omega
  have e : n % ((xs.length : Nat) : Int) = (((n % ((xs.length : Nat) : Int)).toNat : Nat) : Int) := by omega
  have z := atI_nat (List.getElem?_eq_getElem hk)
  rw [← e] at z
  exact ⟨_, z, List.getElem_mem hk⟩
end L2

set_option Elab.async false
set_option linter.all false
set_option maxRecDepth 100000
set_option maxHeartbeats 4000000
namespace PySem
open Sem (wp)
section
variable {prog : Program} {w : World} {A : Around} {E : Value → Shared → Prop} {h : Heap} {g : Array GenState} {d : Drawn} {t : Nat} {os : OsState}
variable {nm q : Str} {C N : Addr} {bs bm bmB : List Value} {hdct : Bool} {sn : List Str} {sub : List Value} {ab : Bool} {col : Option Bool} {dd : Option Addr} {k0 k1 k2 k3 k5 : Option Value} {B newId initId : String}
theorem xc_type_call (F : ExcBaseFacts B newId initId bmB) (T : OwnTail h bmB bm) {mN : Str → Option Value} {rest : List Value} {fI : Addr} {oI : Obj} {Q : Fin → Shared → Prop}
    (hC : h.get? C = some (excClassObj nm q C N bs bm hdct sn sub ab col dd k0 k1 k2 k3 k5 newId)) (hn : h.Ns N mN) (hi : mN "__init__" = some (.ref fI))
    (hfI : h.get? fI = some oI) (hfc : oI.cls = .type "function")
    (hq : ∀ h' e, Heap.MadeExcOf h h' e (.ref C) rest →
      wpAny (model prog w) A (call (.ref fI) (.ref e :: rest)) (fun r s' => r = .none ∧ Q (.done (.ret (.ref e))) s') E ⟨h', g, d, t, os⟩) (hrest : rest.length ≤ sizeLine := by size_fits) :
    wpAny (model prog w) A (Builtin.«type.__call__» ⟨.ref C :: rest, []⟩) Q E ⟨h, g, d, t, os⟩ := by
  repeat (first | with_reducible refine wpAny_loadPart_at hC ?_ | with_reducible refine wpAny_madeBy_exc hC ?_ | wp_step)
  refine codeAny_call_builtin_code (Code.quiet_builtin _ F.quiet) (wpAny_check_new_subT F T hC ?_)
  refine codeAny_exc_new_subT F T hC ?_ hrest
  show wpAny _ _ _ _ _ _
  have hC₁ := Heap.get?_push_of_some { cls := .ref C, data := .fields #[.ref h.objs.size, .none, .none, .none, .bool false, .none] }
    (Heap.get?_push_of_some { cls := .type "tuple", data := .seq rest.toArray } hC)
  have hfI₁ := Heap.get?_push_of_some { cls := .ref C, data := .fields #[.ref h.objs.size, .none, .none, .none, .bool false, .none] }
    (Heap.get?_push_of_some { cls := .type "tuple", data := .seq rest.toArray } hfI)
  have hn₁ : ((h.push { cls := .type "tuple", data := .seq rest.toArray }).push { cls := .ref C, data := .fields #[.ref h.objs.size, .none, .none, .none, .bool false, .none] }).Ns N mN :=
    let ⟨o, es, ep, e, r⟩ := hn; ⟨o, es, ep, Heap.get?_push_of_some _ (Heap.get?_push_of_some _ e), r⟩
  have hget : ((h.push { cls := .type "tuple", data := .seq rest.toArray }).push
      { cls := .ref C, data := .fields #[.ref h.objs.size, .none, .none, .none, .bool false, .none] }).get? (h.objs.size + 1) = some
      { cls := .ref C, data := .fields #[.ref h.objs.size, .none, .none, .none, .bool false, .none] } := by heap_get
  have hcC : (Value.ref C :: bm).contains (.ref C) = true := by simp
  have T₁ := T.keeps (h' := (h.push { cls := .type "tuple", data := .seq rest.toArray }).push { cls := .ref C, data := .fields #[.ref h.objs.size, .none, .none, .none, .bool false, .none] })
    fun b o e => Heap.get?_push_of_some _ (Heap.get?_push_of_some _ e)
  unfold isInstance
  repeat (first | with_reducible refine wpAny_loadPart_at hget ?_ | (with_reducible refine wpAny_isSubtype_exc hC₁ ?_; rw [hcC]) | wp_step)
  show wpAny _ _ (typeLookup (.ref C) _) _ _ _
  refine wpAny_typeLookup_tail hC₁ hn₁ T₁ F.mroIs F.init.lookup ?_
  rw [hi]
  refine wpAny_holding (wpAny_bind ?_)
  unfold bindSpecial
  refine wpAny_bind (wpAny_typeOf (T := "function") ⟨_, hfI₁, hfc⟩ ?_)
  rw [if_pos (by decide)]
  refine wpAny_pure (wpAny_bind (wpAny_mono (hq _ (h.objs.size + 1) ⟨fun b o hb => Heap.get?_push_of_some _ (Heap.get?_push_of_some _ hb), Heap.get?_none_of_le (Nat.le_succ _), h.objs.size, hget, Heap.get?_none_of_le (Nat.le_refl _), ?_⟩) (fun r s' hr => ?_) fun _ _ x => x))
  · exact Heap.get?_push_of_some _ (Heap.get?_push_at rfl rfl)
  · obtain ⟨rfl, hQ⟩ := hr
    wp_walk
    exact hQ
theorem xc_call (F : ExcBaseFacts B newId initId bmB) (T : OwnTail h bmB bm) {mN : Str → Option Value} {rest : List Value} {fI : Addr} {oI : Obj} {Q : Value → Shared → Prop}
    (hC : h.get? C = some (excClassObj nm q C N bs bm hdct sn sub ab col dd k0 k1 k2 k3 k5 newId)) (hn : h.Ns N mN) (hi : mN "__init__" = some (.ref fI))
    (hfI : h.get? fI = some oI) (hfc : oI.cls = .type "function")
    (hq : ∀ h' e, Heap.MadeExcOf h h' e (.ref C) rest →
      wpAny (model prog w) (A.under (.builtin "type.__call__" ⟨.ref C :: rest, []⟩)) (call (.ref fI) (.ref e :: rest)) (fun r s' => r = .none ∧ Q (.ref e) s') E ⟨h', g, d, t, os⟩) (hrest : rest.length ≤ sizeLine := by size_fits) :
    wpAny (model prog w) A (call (.ref C) rest) Q E ⟨h, g, d, t, os⟩ := by
  have f1 := tc_lookup
  have f2 := tc_bind (.ref C)
  have hT : (⟨h, g, d, t, os⟩ : Shared).TypeIs (.ref C) "type" := ⟨_, hC, rfl⟩
  refine wpAny_call (codeAny_of_tree ?_)
  show wpAny _ _ (callAny (.ref C) _) _ _ _
  repeat (any_goals (first | assumption | with_reducible refine wpAny_loadPart_at hC ?_ | wp_step))
  refine ⟨rfl, ?_⟩
  refine codeAny_call_builtin_at (Code.quiet_builtin _ (by decide +kernel)) entry_typeCall (wpAny_check_type_call_sub hC (xc_type_call (hrest := hrest) F T hC hn hi hfI hfc fun h' e hm => ?_))
  exact hq h' e hm
end
end PySem
namespace PySem.W
open PySem PySem.Spec PySem.Calls PyProof.Rows Builtin Builtin.ObjectAttr
/-! an own exception class in the written part -/
def bmVE : List Value := [.type "ValueError", .type "Exception", .type "BaseException", .type "object"]
def refsVE : List Value → Bool
  | .ref _ :: r => refsVE r
  | l => l == bmVE
def xcIn (K : Frag) (C : Addr) (ini : Option Addr) : Bool := match K.lookup C with
  | some ⟨.type "type", _, .cls cd, sl⟩ => (match cd.mro, sl.toList with
    | .ref C' :: bm, [_, _, _, _, some (.builtin n), _] => C' == C && n == "ValueError.__new__" && !cd.hasDel && cd.hasDict && tailIn K bmVE bm && refsVE bm && nsOkIn K cd.ns && nsIn K cd.ns "__init__" == some (ini.map .ref)
    | _, _ => false)
  | _ => false
structure XcAt (h : Heap) (C : Addr) (ini : Option Addr) : Prop where
  ex : ∃ nm q N bs bm sn sub ab col dd k0 k1 k2 k3 k5 mN, h.get? C = some (excClassObj nm q C N bs bm true sn sub ab col dd k0 k1 k2 k3 k5 "ValueError.__new__") ∧ h.Ns N mN ∧ mN "__init__" = ini.map .ref ∧ OwnTail h bmVE bm ∧ refsVE bm = true
theorem nsMap_some_of_in {K : Frag} {h : Heap} {N : Addr} {x : Str} {v : Value} (X : K.In h) (e : nsOkIn K N = true) (q : nsIn K N x = some (some v)) : h.nsMap N x = some v := by
  have G : h.Ns N (h.nsMap N) := .of_isNs (isNs_of_in X e)
  obtain ⟨o, es, ep, ho, hd, _, hf⟩ := G
  unfold nsIn at q
  split at q
  · rename_i c d es' n' sl q'
    have := X _ _ q'
    rw [ho] at this
    cases this
    cases hd
    split at q
    · rename_i en he
      cases q
      rw [← hf]
      unfold nsFind findBy
      rw [← Array.find?_toList, he]
      rfl
    · split at q <;> cases q
  · cases q
theorem xc_of {K : Frag} {h : Heap} {C : Addr} {ini : Option Addr} (X : K.In h) (q : xcIn K C ini = true) : XcAt h C ini := by
  unfold xcIn at q
  split at q
  · rename_i dd cd sl ho
    split at q
    · rename_i C' bm k0 k1 k2 k3 n k5 hm hs
      simp only [Bool.and_eq_true, beq_iff_eq, Bool.not_eq_true'] at q
      obtain ⟨⟨⟨⟨⟨⟨⟨rfl, rfl⟩, hdel⟩, hdc⟩, ht⟩, hr⟩, hok⟩, hni⟩ := q
      obtain ⟨nm, bs, mro, ns, qn, hd, sn, sub, ab, col, del⟩ := cd
      dsimp only at hm hdel hok hni hdc
      subst hm hdel hdc
      have hsl : sl = #[k0, k1, k2, k3, some (.builtin "ValueError.__new__"), k5] := by
        obtain ⟨l⟩ := sl
        simp only at hs
        rw [hs]
      subst hsl
      refine ⟨nm, qn, ns, bs, bm, sn, sub, ab, col, dd, k0, k1, k2, k3, k5, _, X _ _ ho, .of_isNs (isNs_of_in X hok), ?_, tail_of_in X ht, hr⟩
      cases ini with
      | none => exact nsMap_none_of_in X hok hni
      | some f => exact nsMap_some_of_in X hok hni
    · cases q
  · cases q
theorem fn_obj {K : Frag} {h : Heap} {f : Addr} (X : K.In h) (e : isFn K (.ref f) = true) : ∃ o, h.get? f = some o ∧ o.cls = .type "function" := by
  have e' : typeIn K (.ref f) = some (.type "function") := beq_iff_eq.mp e
  obtain ⟨o, ho, z⟩ := Option.map_eq_some_iff.mp e'
  exact ⟨o, X _ _ ho, z⟩
theorem refuse_refs (self : Value) : ∀ {l : List Value}, refsVE l = true → refuseLoop self "__setattr__" l = pure ()
  | [], e => by cases e
  | .ref c :: r, e => by rw [refuseLoop_ref]; exact refuse_refs self (l := r) e
  | .type n :: r, e => by rw [show (Value.type n :: r) = bmVE from beq_iff_eq.mp e]; exact PySem.F.store_ValueError.passes self
  | .none :: r, e => by cases (beq_iff_eq.mp e)
  | .bool _ :: r, e => by cases (beq_iff_eq.mp e)
  | .int _ _ :: r, e => by cases (beq_iff_eq.mp e)
  | .float _ _ :: r, e => by cases (beq_iff_eq.mp e)
  | .str _ _ :: r, e => by cases (beq_iff_eq.mp e)
  | .bytes _ _ :: r, e => by cases (beq_iff_eq.mp e)
  | .builtin _ :: r, e => by cases (beq_iff_eq.mp e)
end PySem.W
namespace PySem.W
open PySem PySem.Spec PySem.Calls PyProof.Rows Builtin Builtin.ObjectAttr
section
variable {prog : Program} {w : World} {A : Around} {K : Frag} {C x : Addr} {s : Shared} {R : Result → Shared → Prop}
theorem xsa_open {ox : Obj} {od : Option Obj} {name : Str} {tk : Tok} {v : Value} {ini : Option Addr} (X : K.In s.heap) (I : InstAt s.heap x ox C od) (hx : xcIn K C ini = true) (ht : findIn K (.ref C) name = some none)
    (h : ∀ b, wpAny (model prog w) A.in1 (storeInOwnDict (.ref x) (.ref C) (.str name tk) name v b)
      (fun fin s' => match fin with | .done f => R (.ok f) s' | .again c' => c'.quiet = true ∧ codeAny (model prog w) A c' R s') (fun e s' => R (.error e) s') s) :
    codeAny (model prog w) A (.call (.builtin "object.__setattr__") ⟨[.ref x, .str name tk, v], []⟩) R s := by
  have SF := PySem.F.store_object
  obtain ⟨nm, q, N, bs, bm, sn, sub, ab, col, dd, k0, k1, k2, k3, k5, mN, hC, _, _, T, hr⟩ := (xc_of X hx).ex
  have hm : Looks (model prog w) s.heap (mroOf (.ref C)) (.ref C :: bm) := fun A' Q' E' s' k z => by
    obtain ⟨h0, g, d, t, os⟩ := s'
    exact wpAny_mroOf_exc (k _ _ hC) z
  have hob : (Value.ref C :: bm).contains (.type "object") = true := by rw [List.contains_cons, T.hasType (X := "object") (b := true) (by decide +kernel), Bool.or_true]
  have sub : Looks (model prog w) s.heap (isInstance (.ref x) (.type "object")) true := I.type.andThen (fun A' Q' E' s' k z => by
    obtain ⟨h0, g, d, t, os⟩ := s'
    exact wpAny_isSubtype_exc (k _ _ hC) (by rw [hob]; exact z))
  refine codeAny_call_builtin SF.slot.plain SF.entry (@check_slot (model prog w) _ _ s "object.__setattr__" "object" "__setattr__" (.ref x) [.str name tk, v] [] _ SF.kind SF.split sub (SF.args (.ref x) (.str name tk) v) ?_)
  rw [osa_eq, refuse_eq]
  refine wpAny_bind (wpAny_bind (I.type.here (wpAny_bind (hm.here ?_))))
  rw [refuseLoop_ref, refuse_refs _ hr]
  refine wpAny_pure (wpAny_bind (I.type.here (wpAny_bind ((looks_findIn X ht).here (wpAny_bind (wpAny_pure ?_))))))
  exact h _
theorem xset {E : Value → Shared → Prop} {vs : Array Value} {name : Str} {v : Value} {ini : Option Addr} {Q : Unit → Shared → Prop} (X : K.In s.heap) (hx : s.heap.get? x = some { cls := .ref C, data := .fields vs }) (hi : xcIn K C ini = true)
    (hs : findIn K (.ref C) "__setattr__" = some (some (.builtin "object.__setattr__"))) (ht : findIn K (.ref C) name = some none)
    (h : ∀ h', h'.get? x = some { cls := .ref C, dict := some s.heap.objs.size, data := .fields vs } → h'.Ns1 s.heap.objs.size (fun y => if y = name then some v else none) → s.heap.objs.size ≤ h'.objs.size →
      (∀ b o, b ≠ x → s.heap.get? b = some o → h'.get? b = some o) → Q () { s with heap := h', toks := s.toks + 2 }) :
    wpAny (model prog w) A (setAttr (.ref x) name v) Q E s := by
  have I : InstAt s.heap x { cls := .ref C, data := .fields vs } C none := ⟨hx, rfl, rfl, True.intro⟩
  obtain ⟨nm, q, N, bs, bm, sn, sub, ab, col, dd, k0, k1, k2, k3, k5, mN, hC, _, _, T, hr⟩ := (xc_of X hi).ex
  refine set_plain X I hs (xsa_open (s := { s with toks := s.toks + 1 }) X I hi ht fun b => ?_)
  have hcd : Looks (model prog w) s.heap (classData C) { name := nm, bases := bs, mro := .ref C :: bm, ns := N, qualname := q, hasDict := true, slotNames := sn, subclasses := sub, abstract := ab, collection := col, hasDel := false } := (Looks.ld (part := none) hC).andThen .now
  refine wpAny_bind (wpAny_pure (wpAny_bind (wpAny_bind (wpAny_loadPart hx (wpAny_bind (Looks.here (s := { s with toks := s.toks + 1 }) hcd ?_))))))
  have hxs : x ≠ s.heap.objs.size := Nat.ne_of_lt (Heap.lt_size hx)
  have hx₁ : (s.heap.push { cls := .type "dict", data := .dict #[] }).get? x = some { cls := .ref C, data := .fields vs } := Heap.get?_push_of_some _ hx
  refine wpAny_bind (wpAny_alloc' ?_)
  refine wpAny_bind (wpAny_update' hx₁ ?_)
  refine wpAny_pure ?_
  have hgd : ((s.heap.push { cls := .type "dict", data := .dict #[] }).update x fun o => { cls := o.cls, dict := some s.heap.objs.size, data := o.data, slots := o.slots }).get? s.heap.objs.size
      = some { cls := .type "dict", data := .dict #[] } :=
    (Heap.get?_update_ne _ _ _ _ hxs.symm).trans (Heap.get?_push_at rfl rfl)
  have hnd : ((s.heap.push { cls := .type "dict", data := .dict #[] }).update x fun o => { cls := o.cls, dict := some s.heap.objs.size, data := o.data, slots := o.slots }).Ns s.heap.objs.size (fun _ => none) :=
    ⟨_, #[], _, hgd, rfl, fun e he => absurd he (by simp), fun _ => rfl⟩
  show wpAny _ _ (storeInDict s.heap.objs.size (.str name _) name v) _ _ _
  unfold storeInDict newKeyGuard
  refine wpAny_bind (wpAny_pure (wpAny_bind (wpAny_nsSet1 (Heap.Ns1.of_empty hnd) fun h' hn' hs' => ?_)))
  obtain ⟨oD, esD, epD, hoD, hdD, hcD⟩ := hn'.count (Within.cons name v Within.nil)
  refine wpAny_bind (wpAny_lookBehind hoD (by rw [hdD]; exact pastItsLine_dict (Nat.le_trans hcD (by rw [List.length_cons, List.length_nil, sizeLine_eq]; omega))) ?_)
  refine wpAny_pure (h h' ?_ hn' ?_ fun b o hb e => ?_)
  · exact (hs'.2 x hxs).trans (Heap.get?_update_self _ hx₁ rfl)
  · have := Heap.lt_size hoD
    exact Nat.le_of_lt this
  · exact (hs'.2 b (Nat.ne_of_lt (Heap.lt_size e))).trans ((Heap.get?_update_ne _ _ _ _ hb).trans (Heap.get?_push_of_some _ e))
end
end PySem.W
namespace PySem.W
open PySem PySem.Spec PySem.Calls PyProof.Rows Builtin Builtin.ObjectAttr
theorem xga_kind : builtinKind "BaseException.__getattribute__" = some .slot := by decide +kernel
theorem xga_split : splitId "BaseException.__getattribute__" = some ("BaseException", "__getattribute__") := by decide +kernel
theorem xga_plain : plainId "BaseException.__getattribute__" = true := PySem.F.excAttr_ValueError.ga.plain
theorem xga_eq0(self : Value) (name : Str) (tk : Tok):∃ f:Value→_,Builtin.«object.__getattribute__» ⟨[self, .str name tk], []⟩ = (typeOf self >>= fun tp => find self tp name >>= fun r => match r with
  | .value v => ret v
  | .bind g a => bindTo g a self tp
  | .missing =>f tp):=⟨_,rfl⟩
theorem xga_eq(self : Value) (name : Str) (tk : Tok):Builtin.«object.__getattribute__» ⟨[self, .str name tk], []⟩ = (typeOf self >>= fun tp => find self tp name >>= fun r => match r with
  | .value v => ret v
  | .bind g a => bindTo g a self tp
  | .missing =>(xga_eq0 self name tk).choose tp):=(xga_eq0 self name tk).choose_spec
section
variable {prog : Program} {w : World} {A : Around} {K : Frag} {C x : Addr} {s : Shared} {ox : Obj} {od : Option Obj} {name : Str} {ini : Option Addr}
theorem xbase (X : K.In s.heap) (I : InstAt s.heap x ox C od) (hi : xcIn K C ini = true) : Looks (model prog w) s.heap (isInstance (.ref x) (.type "BaseException")) true := by
  obtain ⟨nm, q, N, bs, bm, sn, sub, ab, col, dd, k0, k1, k2, k3, k5, mN, hC, _, _, T, hr⟩ := (xc_of X hi).ex
  have hob : (Value.ref C :: bm).contains (.type "BaseException") = true := by rw [List.contains_cons, T.hasType (X := "BaseException") (b := true) (by decide +kernel), Bool.or_true]
  exact I.type.andThen (fun A' Q' E' s' k z => by
    obtain ⟨h0, g, d, t, os⟩ := s'
    exact wpAny_isSubtype_exc (k _ _ hC) (by rw [hob]; exact z))
theorem xga_open {R : Result → Shared → Prop} {tk : Tok} {r : Found} (X : K.In s.heap) (I : InstAt s.heap x ox C od) (hi : xcIn K C ini = true) (hf : findObj K C od name = some r)
    (h : wpAny (model prog w) A.in1 (match r with | .value v => ret v | .bind g a => bindTo g a (.ref x) (.ref C) | .missing => noSuchAttribute (.ref x) name) (fun fin s' => match fin with | .done f => R (.ok f) s' | .again c' => c'.quiet = true ∧ codeAny (model prog w) A c' R s') (fun e s' => R (.error e) s') s)
    (hm : r ≠ .missing) :
    codeAny (model prog w) A (.call (.builtin "BaseException.__getattribute__") ⟨[.ref x, .str name tk], []⟩) R s := by
  refine codeAny_call_builtin xga_plain PySem.F.entry_bexc_ga (@check_slot (model prog w) _ _ s "BaseException.__getattribute__" "BaseException" "__getattribute__" (.ref x) [.str name tk] [] _ xga_kind xga_split (xbase X I hi) (PySem.F.args_bexc_ga (.ref x) (.str name tk)) ?_)
  rw [xga_eq]
  refine wpAny_bind (I.type.here (wpAny_bind ((looks_find X I hf).here ?_)))
  cases r with
  | value v => exact h
  | bind g a => exact h
  | missing => exact absurd rfl hm
theorem xget_by {E : Value → Shared → Prop} {tk : Tok} {fill expr : Bool} {Q : Value → Shared → Prop} (X : K.In s.heap) (I : InstAt s.heap x ox C od)
    (hga : findIn K (.ref C) "__getattribute__" = some (some (.builtin "BaseException.__getattribute__"))) (hgn : findIn K (.ref C) "__getattr__" = some none)
    (h : codeAny (model prog w) A (.call (.builtin "BaseException.__getattribute__") ⟨[.ref x, .str name tk], []⟩) (fun r s' => match r with | .ok (.ret v) => wpAny (model prog w) A (handedOut v) Q E s' | _ => False) s) :
    wpAny (model prog w) A (getAttrBy (.ref x) (.str name tk) fill expr) Q E s := by
  have f3 := PySem.F.excAttr_ValueError.ga.bind (.ref x)
  have hx0 : (expr && onTheHeap (Value.builtin "BaseException.__getattribute__")) = false := by cases expr <;> rfl
  have hx2 : (Value.builtin "BaseException.__getattribute__" == Value.builtin "object.__getattribute__") = false := by decide +kernel
  have hx1 : (onTheHeap (Value.ref C) && Value.builtin "BaseException.__getattribute__" == Value.builtin "object.__getattribute__") = false := by rw [hx2]; rfl
  unfold getAttrBy
  refine wpAny_holding (wpAny_bind (I.type.here (wpAny_bind ((looks_findIn X hga).here ?_))))
  dsimp only
  rw [hx1, if_neg Bool.false_ne_true]
  unfold getAttrByItsOwn hookBefore
  refine wpAny_bind ?_
  rw [if_pos (show onTheHeap (Value.ref C) = true from rfl)]
  refine (looks_findIn X hgn).here (wpAny_bind (wpAny_attempt (wpAny_holding ?_)))
  unfold callGetattribute
  rw [hx0, if_neg Bool.false_ne_true]
  unfold boundAndCalled
  rw [f3]
  refine wpAny_bind (wpAny_pure (wpAny_call (codeAny_mono h fun r s' z => ?_)))
  rcases r with e | (v | _ | _ | _) <;> first | exact z | exact z.elim
theorem xget {E : Value → Shared → Prop} {expr : Bool} {v : Value} {Q : Value → Shared → Prop} (X : K.In s.heap) (I : InstAt s.heap x ox C od) (hi : xcIn K C ini = true)
    (hga : findIn K (.ref C) "__getattribute__" = some (some (.builtin "BaseException.__getattribute__"))) (hgn : findIn K (.ref C) "__getattr__" = some none)
    (hf : findObj K C od name = some (.value v)) (hh : handedIn v = true) (h : Q v { s with toks := s.toks + 1 }) : wpAny (model prog w) A (getAttr (.ref x) name expr) Q E s := by
  unfold getAttr
  refine wpAny_bind (wpAny_mkText ?_)
  refine xget_by (s := { s with toks := s.toks + 1 }) X I hga hgn (xga_open (s := { s with toks := s.toks + 1 }) X I hi hf (wpAny_pure ?_) (by intro z; cases z))
  show wpAny _ _ (handedOut v) _ _ _
  rw [handedOut_of hh]
  exact wpAny_pure h
theorem xclass {E : Value → Shared → Prop} {Q : Option Value → Shared → Prop} (X : K.In s.heap) (I : InstAt s.heap x ox C od) (hi : xcIn K C ini = true)
    (hga : findIn K (.ref C) "__getattribute__" = some (some (.builtin "BaseException.__getattribute__"))) (hgn : findIn K (.ref C) "__getattr__" = some none)
    (hdct : hasDictIn K C = true) (ha : findIn K (.ref C) "__class__" = some (some (.builtin "object.__class__")))
    (hn : specialIn K (.builtin "object.__class__") "__get__" = some (some (.builtin "getset_descriptor.__get__"))) (htk : takesIn K (.builtin "object.__class__") = some true) (hm : mroIn K C (.type "object") = some true)
    (h : Q (some (.ref C)) { s with toks := s.toks + 1 }) : wpAny (model prog w) A (getAttr? (.ref x) "__class__") Q E s := by
  have hf : findObj K C od "__class__" = some (.bind (.builtin "getset_descriptor.__get__") (.builtin "object.__class__")) := by
    obtain ⟨cd, hc, _⟩ := any_some hdct
    unfold findObj
    rw [hc, Option.bind_some, ha, Option.bind_some]
    dsimp only
    rw [hn, Option.bind_some]
    dsimp only
    rw [htk, Option.bind_some]
  unfold getAttr?
  refine wpAny_bind (wpAny_mkText ?_)
  unfold getAttrBy?
  refine wpAny_bind (wpAny_attempt (xget_by (s := { s with toks := s.toks + 1 }) X I hga hgn (xga_open (s := { s with toks := s.toks + 1 }) X I hi hf ?_ (by intro z; cases z))))
  show wpAny _ _ (holding [_] (call (.builtin "getset_descriptor.__get__") [.builtin "object.__class__", .ref x, .ref C]) >>= ret) _ _ _
  refine wpAny_bind (wpAny_holding (wpAny_call (class_get (s := { s with toks := s.toks + 1 }) X I hm (wpAny_pure ?_))))
  show wpAny _ _ (handedOut (.ref C)) _ _ _
  rw [handedOut_of rfl]
  exact wpAny_pure (wpAny_pure h)
theorem kitx_exc (hi : xcIn K C ini = true)
    (hga : findIn K (.ref C) "__getattribute__" = some (some (.builtin "BaseException.__getattribute__"))) (hgn : findIn K (.ref C) "__getattr__" = some none)
    (hdct : hasDictIn K C = true) (ha : findIn K (.ref C) "__class__" = some (some (.builtin "object.__class__")))
    (hn : specialIn K (.builtin "object.__class__") "__get__" = some (some (.builtin "getset_descriptor.__get__"))) (htk : takesIn K (.builtin "object.__class__") = some true) (hm : mroIn K C (.type "object") = some true) :
    KitX K (.ref x) (.ref C) (fun h => InstAt h x ox C od) where
  ty := fun _ _ _ I => I.type
  it := fun _ _ X _ => by
    obtain ⟨cdD, hcD, _⟩ := any_some hdct
    unfold clsIn at hcD
    split at hcD
    · rename_i c' d' cd' sl' ho
      intro A' Q' E' s' k q
      unfold isType loadHead
      exact wpAny_bind (wpAny_loadPart (k _ _ (X _ _ ho)) (wpAny_pure q))
    · cases hcD
  ne := fun h tp dd its n sl X htp => by
    obtain ⟨cdD, hcD, _⟩ := any_some hdct
    refine Bool.eq_false_iff.mpr fun q => ?_
    have e : C = tp := Value.ref.inj (beq_iff_eq.mp q)
    subst e
    unfold clsIn at hcD
    split at hcD
    · rename_i c' d' cd' sl' ho
      have z := (X _ _ ho).symm.trans htp
      cases z
    · cases hcD
  ca := fun X I k => xclass X I hi hga hgn hdct ha hn htk hm k
theorem xmatch {M : Model} {E : Value → Shared → Prop} {D : Addr} {b : Bool} {Q : Bool → Shared → Prop} (X : K.In s.heap) (I : InstAt s.heap x ox C od) (hd : mroIn K D (.type "BaseException") = some true)
    (hty : typeIn K (.ref D) = some (.type "type")) (hm : mroIn K C (.ref D) = some b) (h : Q b s) : wpAny M A (excMatches (.ref x) (.ref D)) Q E s := by
  have f := tc_notTuple
  have l1 := looks_typeIn (M := M) X hty
  have l2 := looks_mroIn (M := M) X hd
  have l3 := looks_mroIn (M := M) X hm
  have l4 := I.type (M := M)
  obtain ⟨cd, hcd⟩ : ∃ cd, clsIn K D = some cd := by
    unfold mroIn at hd
    cases q : clsIn K D with
    | none => rw [q] at hd; cases hd
    | some cd => exact ⟨cd, rfl⟩
  have l5 : Looks M s.heap (isType (.ref D)) true := by
    unfold clsIn at hcd
    split at hcd
    · rename_i c' d' cd' sl' ho
      intro A' Q' E' s' k q
      unfold isType loadHead
      exact wpAny_bind (wpAny_loadPart (k _ _ (X _ _ ho)) (wpAny_pure q))
    · cases hcd
  unfold excMatches isInstance
  refine wpAny_bind (wpAny_bind (l1.here ?_))
  rw [f]
  refine wpAny_pure (wpAny_bind (wpAny_pure ?_))
  simp only [List.forIn_cons, List.forIn_nil]
  have l6 : Looks M s.heap (isExcClass (.ref D)) true := l5.andThen (by rw [if_pos rfl]; exact l2)
  refine wpAny_bind (wpAny_bind (wpAny_bind (l6.here ?_)))
  simp only [Bool.not_true, Bool.false_eq_true, if_false]
  refine wpAny_pure (wpAny_pure (wpAny_bind (l4.here (wpAny_bind (wpAny_bind (wpAny_bind (l3.here ?_)))))))
  cases b with
  | true => exact wpAny_pure (wpAny_pure (wpAny_pure h))
  | false => exact wpAny_pure (wpAny_pure (wpAny_pure h))
end
end PySem.W

set_option Elab.async false
set_option linter.all false
set_option maxRecDepth 100000
set_option maxHeartbeats 4000000
namespace L2
open PySem PySem.Spec PyProof.Rows
/-! ## exceptions: the object, its dict -/
abbrev xobj (C : Addr) (dx : Option Addr) (vs : Array Value) : Obj := { cls := .ref C, dict := dx, data := .fields vs }
def XcO (a C : Addr) (dx : Option Addr) (vs : Array Value) : HO := .ext fun h => h.get? a = some (xobj C dx vs)
theorem xco_ok {P : Program} {w : World} {H : Hp} {h : Heap} {a C : Addr} {dx : Option Addr} {vs : Array Value} (e : h.get? a = some (xobj C dx vs)) : ObjOk P w H h a (XcO a C dx vs) := ⟨e, ⟨_, e⟩, fun h1 h2 p k => k _ p⟩
theorem xco_get {P : Program} {w : World} {H : Hp} {h : Heap} {a C : Addr} {dx : Option Addr} {vs : Array Value} (hok : HOk P w H h) (e : H a = some (XcO a C dx vs)) : h.get? a = some (xobj C dx vs) := (show ObjOk P w H h a (XcO a C dx vs) from hok a _ e).1
structure XCls (K : PySem.W.Frag) (C : Addr) : Prop where
  xc : ∃ ini, PySem.W.xcIn K C ini = true
  sa : PySem.W.findIn K (.ref C) "__setattr__" = some (some (.builtin "object.__setattr__"))
  ga : PySem.W.findIn K (.ref C) "__getattribute__" = some (some (.builtin "BaseException.__getattribute__"))
  gn : PySem.W.findIn K (.ref C) "__getattr__" = some none
  hd : PySem.W.hasDictIn K C = true
  cl : PySem.W.findIn K (.ref C) "__class__" = some (some (.builtin "object.__class__"))
  cg : PySem.W.specialIn K (.builtin "object.__class__") "__get__" = some (some (.builtin "getset_descriptor.__get__"))
  ct : PySem.W.takesIn K (.builtin "object.__class__") = some true
  mo : PySem.W.mroIn K C (.type "object") = some true
section
variable {X : Cx} {pins : List (Addr × Obj)} {σ : St} {H : Hp} {s : Shared}
theorem Inv.inst (I : Inv X pins σ H s) {a C : Addr} {dx : Option Addr} {vs : Array Value} (e : H a = some (XcO a C dx vs)) (hd : ∀ d, dx = some d → ∃ fs, H d = some (.xd fs)) : ∃ od, PySem.W.InstAt s.heap a (xobj C dx vs) C od := by
  have g := xco_get I.hok e
  cases dx with
  | none => exact ⟨none, g, rfl, rfl, True.intro⟩
  | some d =>
    obtain ⟨fs, hf⟩ := hd d rfl
    obtain ⟨mA, ⟨o, es, ep, ho, _⟩, _⟩ := (show ObjOk X.prog X.w H s.heap d (.xd fs) from I.hok d _ hf)
    exact ⟨some o, g, rfl, rfl, ho⟩
structure IsX (K : PySem.W.Frag) (H : Hp) (a C : Addr) : Prop where
  cls : XCls K C
  at_ : ∃ dx vs, H a = some (XcO a C dx vs) ∧ ∀ d, dx = some d → ∃ fs, H d = some (.xd fs)
def tXFld (K : PySem.W.Frag) (ta : TE) (f : Str) : TE := fun σ H Q => ta σ H fun x H1 => ∃ a C d vs fs v, x = .ref a ∧ H1 a = some (XcO a C (some d) vs) ∧ H1 d = some (.xd fs) ∧ XCls K C ∧ NoAttr K C f ∧ fs.lookup f = some v ∧ Q v H1
theorem pe_xfld {e : Expr} {f : Str} {pos : Pos} {ta : TE} (he : PE X e ta) (hb : attributeBase e f X.env (eval e X.env) = eval e X.env) : PE X (.Attribute e f pos) (tXFld X.K ta f) := by
  with_unfolding_all
    intro pins s σ H Q I h
    refine attr_of hb (thn (he pins s σ H _ I h) fun u s1 ⟨x, H1, I1, rx, a, C, d, vs, fs, v, ex, ea, ed, c, n, l, q⟩ => ?_)
    subst ex
    obtain rfl : u = Value.ref a := rx
    obtain ⟨mA, ns, r⟩ := (show ObjOk X.prog X.w H1 s1.heap d (.xd fs) from I1.hok d _ ed)
    obtain ⟨od, ho, hl⟩ := lookIn_ns ns
    have J : PySem.W.InstAt s1.heap a (xobj C (some d) vs) C (some od) := ⟨xco_get I1.hok ea, rfl, rfl, ho⟩
    obtain ⟨u, hu, ru⟩ := RelO.some_of (v := v) (o := mA f) (by rw [← l]; exact r f)
    obtain ⟨ini, hi⟩ := c.xc
    exact PySem.W.xget I1.kIn J hi c.ga c.gn (PySem.W.findObj_own c.hd n rfl (by rw [hl, hu])) (handed_of ru) ⟨v, H1, I1.tok _, ru, q⟩
def sXFld (K : PySem.W.Frag) (ta tv : TE) (f : Str) : TS := fun D σ H => tv σ H fun y H1 => ta σ H1 fun x H2 => ∃ a C vs, x = .ref a ∧ H2 a = some (XcO a C none vs) ∧ XCls K C ∧ NoAttr K C f ∧
  ∀ d H3, (∀ b o, b ≠ a → H2 b = some o → H3 b = some o) → H2 d = none → H3 a = some (XcO a C (some d) vs) → H3 d = some (.xd [(f, y)]) → D.nx σ H3
theorem ps_xfld {o value : Expr} {f : Str} {pos pos' : Pos} {ta tv : TE} (ha : PE X o ta) (hv : PE X value tv) (hs : swapsWith value (some (.Attribute o f pos')) pos.line X.env = pure false) : PS X (.Assign [.Attribute o f pos'] value pos) (sXFld X.K ta tv f) := by
  with_unfolding_all
    intro pins s σ H D I h
    refine plainObj_wpAny_Assign_Attribute (thn (hv pins s σ H _ I h) fun u s1 ⟨y, H1, I1, ry, q⟩ => thn (ha pins s1 σ H1 _ I1 q) fun ov s2 ⟨x, H2, I2, rx, a, C, vs, ex, ea, c, n, q2⟩ => ?_) hs
    subst ex
    obtain rfl : ov = Value.ref a := rx
    obtain ⟨ini, hi⟩ := c.xc
    have ga := xco_get I2.hok ea
    have hd : H2 s2.heap.objs.size = none := I2.hok.fresh (Nat.le_refl _)
    have nda : s2.heap.objs.size ≠ a := Nat.ne_of_gt (Heap.lt_size ga)
    refine PySem.W.xset I2.kIn ga hi c.sa n fun h' g1 g2 g3 g4 => ?_
    -- the new dict, then the exception's own object
    have hok : HOk X.prog X.w (upd (upd H2 s2.heap.objs.size (.xd [(f, y)])) a (XcO a C (some s2.heap.objs.size) vs)) h' := by
      intro b ob e
      by_cases hba : b = a
      · subst hba
        rw [upd_same] at e
        cases e
        exact xco_ok g1
      · rw [upd_ne hba] at e
        by_cases hbd : b = s2.heap.objs.size
        · subst hbd
          rw [upd_same] at e
          cases e
          refine ⟨_, g2, fun z => ?_⟩
          show RelO (([(f, y)] : List (Str × V)).lookup z) (if z = f then some u else none)
          by_cases hz : z = f
          · subst hz
            simp only [List.lookup, beq_self_eq_true, if_true]
            exact ry
          · have : (z == f) = false := by simpa using hz
            simp only [List.lookup, this, if_neg hz]
            exact True.intro
        · rw [upd_ne hbd] at e
          refine (I2.hok b ob e).stay (fun c' v hc' r => g4 c' v ?_ r) (fun c' r => ?_) (fun c' xs r => ?_) fun c' ob xs r => ?_
          · rintro rfl
            rcases hc' with z | z
            · exact hba z.symm
            · rw [ea] at z
              cases z
          · rw [upd_ne (fun z => by subst z; rw [ea] at r; cases r), upd_ne (ne_of_none r hd)]
            exact r
          · rw [upd_ne (fun z => by subst z; rw [ea] at r; cases r), upd_ne (ne_of_none r hd)]
            exact r
          · rw [upd_ne (fun z => by subst z; rw [ea] at r; cases r), upd_ne (ne_of_none r hd)]
            exact r
    have un : Un X.fs [] H2 (upd (upd H2 s2.heap.objs.size (.xd [(f, y)])) a (XcO a C (some s2.heap.objs.size) vs)) s2.heap h' := by
      have na : ∀ b, H2 b = none → b ≠ a := fun b n z => by subst z; rw [ea] at n; cases n
      refine ⟨fun b o e n _ _ => g4 b o (na b n) e, fun b o e n _ _ => ⟨o.slots, g4 b o (na b n) e⟩, fun b o e n _ => ?_, fun b o e _ => ?_, fun b xs e => ?_, fun b o' u' e => ?_, fun b lp lq e => ?_⟩
      · rw [upd_ne (na b n), upd_ne (Nat.ne_of_lt (Heap.lt_size e))]
        exact n
      · by_cases hb : b = a
        · subst hb; exact ⟨_, g1⟩
        · exact ⟨o, g4 b o hb e⟩
      · rw [upd_ne (fun z => by subst z; rw [ea] at e; cases e), upd_ne (ne_of_none e hd)]
        exact e
      · rw [upd_ne (fun z => by subst z; rw [ea] at e; cases e), upd_ne (ne_of_none e hd)]
        exact e
      · rw [upd_ne (fun z => by subst z; rw [ea] at e; cases e), upd_ne (ne_of_none e hd)]
        exact e
    refine ⟨σ, _, I2.un un hok, q2 s2.heap.objs.size _ (fun b ob hb e => ?_) hd upd_same ?_⟩
    · rw [upd_ne hb, upd_ne (ne_of_none e hd)]
      exact e
    · rw [upd_ne nda]
      exact upd_same
end
end L2

set_option Elab.async false
set_option linter.all false
set_option maxRecDepth 100000
set_option maxHeartbeats 4000000
namespace PySem
open L2 (xobj)
/-! ## an exception's way through frames: its object is known whole -/
def Heap.XFly (h base : Heap) (e C : Addr) (dx : Option Addr) (T : Addr) (fl : Value) : Prop :=
  ∃ vs oT ts, h.get? e = some (xobj C dx vs) ∧ vs[1]? = some (.ref T) ∧ base.get? T = none ∧ T ≠ e ∧ h.get? T = some oT ∧ oT.data = .fields ts ∧ ts[3]? = some fl
def Heap.XAt (base : Heap) (l : List Env) (e C : Addr) (dx : Option Addr) (T : Addr) (fl : Value) (h : Heap) : Prop :=
  base.StaysIn h ∧ base.get? e = none ∧ h.FunFrames base l ∧ h.XFly base e C dx T fl
section
variable {M : Model} {A : Around} {E : Value → Shared → Prop} {s : Shared}
theorem x_entry {base : Heap} {env : Env} {outer : List Env} {L e C : Addr} {dx : Option Addr} {vs : Array Value} {head : Value} {hadNext : Bool} {Q : Unit → Shared → Prop}
    (hfr : A.frames = some (env :: outer)) (hl : s.heap.FunFrames base (env :: outer)) (hf : env.frame = some L)
    (he : s.heap.get? e = some (xobj C dx vs)) (hkb : base.StaysIn s.heap) (hen : base.get? e = none) (hsz : 1 < vs.size)
    (h : ∀ h' T', Heap.XAt base (env :: outer) e C dx T' (rawInt L) h' → s.heap.UpToSlots h' → s.heap.objs.size ≤ T' → Q () { s with heap := h' }) :
    wpAny M A (do let a ← frameOf env; let pl ← entryPlaceOf L hadNext; let b ← EntryCells.newEntry head a .none (rawInt L) .none pl; setField (.ref e) 1 b) Q E s := by
  have hd : (xobj C dx vs).data = .fields vs := rfl
  have hene : e ∉ (env :: outer).filterMap (·.frame) := fun hm => by
    obtain ⟨_, o, ho, hnf⟩ := hl.mem hm
    rw [he] at ho; injection ho with ho; subst ho; exact hnf vs hd
  refine wpAny_bind (wpAny_frameOf_fun hfr hl hf fun h₁ hs₁ => ?_)
  refine wpAny_bind (wpAny_entryPlaceOf fun pl hpl => ?_)
  unfold EntryCells.newEntry newFields
  refine wpAny_bind (wpAny_newObj_type ?_ (hpl.sizeOk5 _ _ _ _ _))
  have he₁ : h₁.get? e = some (xobj C dx vs) := (hs₁.2.1 e hene).trans he
  have kb₁ : base.StaysIn h₁ := fun b o hbo => (hs₁.2.1 b fun hm => by rw [(hl.mem hm).1] at hbo; cases hbo).trans (hkb b o hbo)
  have he₂ := Heap.get?_push_of_some (h := h₁) { cls := .type "traceback", dict := none, data := .fields ([head, .ref L, .none, rawInt L, .none] ++ (if pl.isEmpty then List.replicate 6 Value.none else pl)).toArray } he₁
  have hTe : h₁.objs.size ≠ e := Nat.ne_of_gt (Heap.lt_size he₁)
  have hd₃ := Obj.data_mapFields hd (·.setIfInBounds 1 (Value.ref h₁.objs.size))
  have he₃ := Heap.get?_update_self (Obj.mapFields (·.setIfInBounds 1 (Value.ref h₁.objs.size))) he₂ (Obj.isFreed_of_fields hd₃)
  have hT₃ := (Heap.get?_update_other (h₁.push { cls := .type "traceback", dict := none, data := .fields ([head, .ref L, .none, rawInt L, .none] ++ (if pl.isEmpty then List.replicate 6 Value.none else pl)).toArray })
    (Obj.mapFields (·.setIfInBounds 1 (Value.ref h₁.objs.size))) (Ne.symm hTe)).trans (Heap.get?_push_size h₁ rfl)
  have keep : ∀ b o, b ≠ e → h₁.get? b = some o →
      ((h₁.push { cls := .type "traceback", dict := none, data := .fields ([head, .ref L, .none, rawInt L, .none] ++ (if pl.isEmpty then List.replicate 6 Value.none else pl)).toArray }).update e (Obj.mapFields (·.setIfInBounds 1 (Value.ref h₁.objs.size)))).get? b = some o :=
    fun b o hbe hb => by
      rw [Heap.get?_update_other _ _ (Ne.symm hbe)]
      exact Heap.get?_push_of_some _ hb
  have noRecord : ∀ b o, s.heap.get? b = some o → (∀ vs, o.data ≠ .fields vs) → b ≠ e := fun b o hb hnf q => by
    rw [q, he] at hb; injection hb with hb; subst hb; exact hnf vs hd
  refine wpAny_setField he₂ hd hsz (h _ h₁.objs.size ?_ ?_ ?_)
  · refine ⟨fun b o hbo => keep b o (fun q => by rw [q, hen] at hbo; cases hbo) (kb₁ b o hbo), hen, hl.of_keeps fun b o hb hnf => ?_, ?_⟩
    · obtain ⟨sl, hs⟩ := hs₁.2.2 b o hb
      exact ⟨_, keep b _ (noRecord b o hb hnf) hs, rfl⟩
    · exact ⟨_, _, _, he₃, by simp [hsz], kb₁.fresh, hTe, hT₃, rfl, by first | (simp; done) | (rcases hpl with rfl | ⟨_, _, _, _, _, _, _, rfl⟩ <;> simp)⟩
  · intro b o hb hnf
    obtain ⟨sl, hs⟩ := hs₁.2.2 b o hb
    exact ⟨sl, keep b _ (noRecord b o hb hnf) hs⟩
  · rw [hs₁.1]
    exact Nat.le_refl _
theorem x_note_first {base : Heap} {env : Env} {outer : List Env} {L e C : Addr} {dx : Option Addr} {vs : Array Value} {Q : Unit → Shared → Prop}
    (hfr : A.frames = some (env :: outer)) (hl : s.heap.FunFrames base (env :: outer)) (hf : env.frame = some L)
    (he : s.heap.get? e = some (xobj C dx vs)) (hkb : base.StaysIn s.heap) (hen : base.get? e = none) (h1 : vs[1]? = some .none)
    (h : ∀ h' T', Heap.XAt base (env :: outer) e C dx T' (rawInt L) h' → s.heap.UpToSlots h' → s.heap.objs.size ≤ T' → Q () { s with heap := h' }) : wpAny M A (noteFrame (.ref e) env) Q E s := by
  unfold noteFrame
  simp only [hf]
  refine wpAny_bind (wpAny_field he rfl h1 ?_)
  rw [if_neg (by decide)]
  exact x_entry hfr hl hf he hkb hen (Array.getElem?_eq_some_iff.mp h1).1 h
theorem x_note_next {base : Heap} {env : Env} {outer : List Env} {L e C T : Addr} {dx : Option Addr} {Q : Unit → Shared → Prop}
    (hfr : A.frames = some (env :: outer)) (hf : env.frame = some L) (hx : Heap.XAt base (env :: outer) e C dx T .none s.heap)
    (h : ∀ h' T', Heap.XAt base (env :: outer) e C dx T' (rawInt L) h' → s.heap.UpToSlots h' → s.heap.objs.size ≤ T' → Q () { s with heap := h' }) : wpAny M A (noteFrame (.ref e) env) Q E s := by
  obtain ⟨hkb, hen, hl, vs, oT, ts, he, h1, hnT, hTe, hT, hdT, h3⟩ := hx
  unfold noteFrame
  simp only [hf]
  refine wpAny_bind (wpAny_field he rfl h1 ?_)
  rw [if_pos (show (Value.ref T != Value.none) = true from by simp)]
  refine wpAny_bind (wpAny_field hT hdT h3 ?_)
  rw [if_neg (show ¬ ((Value.none == rawInt L) = true) from by simp [rawInt])]
  refine wpAny_bind (wpAny_setField hT hdT (Array.getElem?_eq_some_iff.mp h3).1 ?_)
  have other : ∀ b, b ≠ T → (s.heap.update T (Obj.mapFields (·.setIfInBounds 3 Value.none))).get? b = s.heap.get? b := fun b hb => Heap.get?_update_other _ _ (Ne.symm hb)
  have noRecord : ∀ b o, s.heap.get? b = some o → (∀ vs, o.data ≠ .fields vs) → b ≠ T := fun b o hb hnf q => by
    rw [q, hT] at hb; injection hb with hb; subst hb; exact hnf ts hdT
  refine x_entry hfr (hl.of_keeps fun b o hb hnf => ⟨o, (other b (noRecord b o hb hnf)).trans hb, rfl⟩) hf ((other e (Ne.symm hTe)).trans he)
    (fun b o hbo => (other b fun q => by rw [q, hnT] at hbo; cases hbo).trans (hkb b o hbo)) hen (Array.getElem?_eq_some_iff.mp h1).1
    fun h' T' x1 x2 x3 => h h' T' x1 (fun b o hb hnf => x2 b o ((other b (noRecord b o hb hnf)).trans hb) hnf) (by rw [Heap.size_after_update] at x3; exact x3)
theorem x_flight {base : Heap} {l : List Env} {e C T : Addr} {dx : Option Addr} {fl : Value} {Q : Unit → Shared → Prop} (hx : Heap.XAt base l e C dx T fl s.heap)
    (h : ∀ h', Heap.XAt base l e C dx T .none h' → s.heap.UpToSlots h' → Q () { s with heap := h' }) : wpAny M A (setFlight (.ref e) none) Q E s := by
  obtain ⟨hkb, hen, hl, vs, oT, ts, he, h1, hnT, hTe, hT, hdT, h3⟩ := hx
  have hsz3 : 3 < ts.size := (Array.getElem?_eq_some_iff.mp h3).1
  have other : ∀ b, b ≠ T → (s.heap.update T (Obj.mapFields (·.setIfInBounds 3 ((none : Option Addr).elim Value.none fun f => rawInt f)))).get? b = s.heap.get? b :=
    fun b hb => Heap.get?_update_other _ _ (Ne.symm hb)
  have noRecord : ∀ b o, s.heap.get? b = some o → (∀ vs, o.data ≠ .fields vs) → b ≠ T := fun b o hb hnf q => by
    rw [q, hT] at hb; injection hb with hb; subst hb; exact hnf ts hdT
  unfold setFlight
  refine wpAny_bind (wpAny_field he rfl h1 ?_)
  rw [if_pos (show (Value.ref T != Value.none) = true from by simp)]
  refine wpAny_setField hT hdT hsz3 (h _ ⟨fun b o hbo => (other b fun q => by rw [q, hnT] at hbo; cases hbo).trans (hkb b o hbo), hen,
    hl.of_keeps fun b o hb hnf => ⟨o, (other b (noRecord b o hb hnf)).trans hb, rfl⟩, ?_⟩ (fun b o hb hnf => ⟨o.slots, (other b (noRecord b o hb hnf)).trans hb⟩))
  exact ⟨vs, _, _, (other e (Ne.symm hTe)).trans he, h1, hnT, hTe, Heap.get?_update_self _ hT (Obj.isFreed_of_fields (Obj.data_mapFields hdT _)), Obj.data_mapFields hdT _, by simp [hsz3]⟩
theorem x_leave_next {base : Heap} {env : Env} {outer : List Env} {L e C T : Addr} {dx : Option Addr} {Q : Unit → Shared → Prop}
    (hfr : A.frames = some (env :: outer)) (hf : env.frame = some L) (hx : Heap.XAt base (env :: outer) e C dx T .none s.heap)
    (h : ∀ h' T', Heap.XAt base (env :: outer) e C dx T' .none h' → s.heap.UpToSlots h' → s.heap.objs.size ≤ T' → Q () { s with heap := h' }) : wpAny M A (leaving env (.ref e)) Q E s := by
  unfold leaving
  refine wpAny_bind (x_note_next hfr hf hx fun h1 T' a b c => ?_)
  exact x_flight (s := { s with heap := h1 }) a fun h2 a2 b2 => h h2 T' a2 (b.trans b2) c
theorem x_leave_first {base : Heap} {env : Env} {outer : List Env} {L e C : Addr} {dx : Option Addr} {vs : Array Value} {Q : Unit → Shared → Prop}
    (hfr : A.frames = some (env :: outer)) (hl : s.heap.FunFrames base (env :: outer)) (hf : env.frame = some L)
    (he : s.heap.get? e = some (xobj C dx vs)) (hkb : base.StaysIn s.heap) (hen : base.get? e = none) (h1 : vs[1]? = some .none)
    (h : ∀ h' T', Heap.XAt base (env :: outer) e C dx T' .none h' → s.heap.UpToSlots h' → s.heap.objs.size ≤ T' → Q () { s with heap := h' }) : wpAny M A (leaving env (.ref e)) Q E s := by
  unfold leaving
  refine wpAny_bind (x_note_first hfr hl hf he hkb hen h1 fun h1 T' a b c => ?_)
  exact x_flight (s := { s with heap := h1 }) a fun h2 a2 b2 => h h2 T' a2 (b.trans b2) c
end
end PySem
namespace L2
open PySem PySem.Spec PyProof.Rows
/-! ## the callers' view -/
def apart (X : Cx) (h : Heap) (e : Addr) (T : List Addr) : Heap := PySem.W.hideAll h (e :: (T ++ frs X.stack))
section
variable {X : Cx} {pins : List (Addr × Obj)} {σ : St} {H : Hp} {s : Shared} {e C T : Addr} {dx : Option Addr} {vs : Array Value}
theorem apart_stays {Ts : List Addr} {h : Heap} : (apart X h e Ts).StaysIn h := fun b o q => PySem.W.of_hideAll _ q
theorem apart_get {Ts : List Addr} {h : Heap} {b : Addr} {o : Obj} (q : h.get? b = some o) (h1 : b ≠ e) (h2 : b ∉ Ts) (h3 : b ∉ frs X.stack) : (apart X h e Ts).get? b = some o :=
  PySem.W.hideAll_get _ q fun hm => by
    rcases List.mem_cons.mp hm with z | z
    · exact h1 z
    · rcases List.mem_append.mp z with z | z
      · exact h2 z
      · exact h3 z
theorem apart_none {Ts : List Addr} {h : Heap} {b : Addr} (hb : b = e ∨ b ∈ Ts ∨ b ∈ frs X.stack) : (apart X h e Ts).get? b = none :=
  PySem.W.hideAll_none _ (by
    rcases hb with z | z | z
    · rw [z]; exact List.mem_cons_self
    · exact List.mem_cons_of_mem _ (List.mem_append_left _ z)
    · exact List.mem_cons_of_mem _ (List.mem_append_right _ z))
theorem apart_frames {Ts : List Addr} (I : Inv X pins σ H s) : s.heap.FunFrames (apart X s.heap e Ts) X.stack := by
  have key : ∀ l : List Env, (∀ b ∈ frs l, b ∈ frs X.stack) → s.heap.FunFrames X.base l → s.heap.FunFrames (apart X s.heap e Ts) l := by
    intro l
    induction l with
    | nil => intro _ _; trivial
    | cons env r ih =>
      intro hs hl
      obtain ⟨hk, ⟨L, o, hf, hn, ho, hd⟩, hr⟩ := hl
      have hL : L ∈ frs X.stack := hs L (by unfold frs; rw [List.filterMap_cons, hf]; exact List.mem_cons_self)
      exact ⟨hk, ⟨L, o, hf, apart_none (.inr (.inr hL)), ho, hd⟩, ih (fun b hb => hs b (by unfold frs; rw [List.filterMap_cons, hf]; exact List.mem_cons_of_mem _ hb)) hr⟩
  exact key X.stack (fun _ h => h) I.stack
theorem Inv.shaken {h' : Heap} {vs' : Array Value} {Ts : List Addr} (I : Inv X pins σ H s) (he : H e = some (XcO e C dx vs)) (hn : ∀ b ∈ Ts, H b = none)
    (hT : ∀ b ∈ Ts, X.s₀.heap.objs.size ≤ b ∧ b ≠ X.env.locals ∧ (∀ x c, X.env.cells.lookup x = some c → c ≠ b) ∧ ∀ p ∈ X.pn ++ pins, p.1 ≠ b)
    (hs : (apart X s.heap e Ts).StaysIn h') (up : s.heap.UpToSlots h') (he' : h'.get? e = some (xobj C dx vs')) :
    Inv X pins σ (upd H e (XcO e C dx vs')) { s with heap := h' } := by
  have ge := xco_get I.hok he
  have nfr : e ∉ frs X.stack := fun z => by rw [I.stkFree e z] at he; cases he
  have frL : X.env.locals ∈ frs X.stack ∨ X.env.locals ∉ frs X.stack := Classical.em _
  have dat : ∀ b ∈ frs X.stack, ∃ o, s.heap.get? b = some o ∧ ∀ ws, o.data ≠ .fields ws := fun b hb => by
    obtain ⟨_, o, ho, hd⟩ := I.stack.mem hb
    exact ⟨o, ho, hd⟩
  have keepN : ∀ b o, b ≠ e → b ∉ Ts → b ∉ frs X.stack → s.heap.get? b = some o → h'.get? b = some o := fun b o h1 h2 h3 q => hs b o (apart_get q h1 h2 h3)
  have ne : ∀ b, H b = none → b ≠ e := fun b n z => by subst z; rw [he] at n; cases n
  refine I.step (g' := s.gens) (d' := s.drawn) (ch := Ts) (fun b hb => ⟨.inr (hT b hb).1, (hT b hb).2⟩) (fun b o hL hb hc q n => keepN b o (ne b n) hc (fun z => by
      rcases List.mem_cons.mp (I.stkSub b z) with z | z
      · exact hL z
      · exact hb z) q) (fun b o hL hb hc q n => ?_) (fun b o hc q n => by rw [upd_ne (ne b n)]; exact n) (fun b o hc q => ?_) (fun b xs q => by rw [upd_ne (fun z => by subst z; rw [he] at q; cases q)]; exact q)
      (fun b o u q => by rw [upd_ne (fun z => by subst z; rw [he] at q; cases q)]; exact q) (fun b lp lq q => by rw [upd_ne (fun z => by subst z; rw [he] at q; cases q)]; exact q) (fun m hm => up.ns hm) (fun b u q => ?_) I.bare
  · by_cases hf : b ∈ frs X.stack
    · obtain ⟨o', ho', hd⟩ := dat b hf
      rw [q] at ho'
      cases ho'
      exact up b o q hd
    · exact ⟨o.slots, keepN b o (ne b n) hc hf q⟩
  · by_cases hbe : b = e
    · subst hbe; exact ⟨_, he'⟩
    · by_cases hf : b ∈ frs X.stack
      · obtain ⟨o', ho', hd⟩ := dat b hf
        obtain ⟨sl, z⟩ := up b o' ho' hd
        exact ⟨_, z⟩
      · exact ⟨o, keepN b o hbe hc hf q⟩
  · by_cases hbe : b = e
    · subst hbe
      rw [upd_same] at q
      cases q
      exact xco_ok he'
    · rw [upd_ne hbe] at q
      refine (I.hok b u q).stay (fun c v hc z => keepN c v ?_ ?_ ?_ z) (fun c z => by rw [upd_ne (fun y => by subst y; rw [he] at z; cases z)]; exact z) (fun c xs z => by rw [upd_ne (fun y => by subst y; rw [he] at z; cases z)]; exact z) fun c ob xs z => by rw [upd_ne (fun y => by subst y; rw [he] at z; cases z)]; exact z
      · rintro rfl
        rcases hc with z | z
        · exact hbe z.symm
        · rw [he] at z; cases z
      · intro y
        have := hn c y
        rcases hc with z | z
        · rw [z, q] at this; cases this
        · rw [z] at this; cases this
      · intro y
        have := I.stkFree c y
        rcases hc with z | z
        · rw [z, q] at this; cases this
        · rw [z] at this; cases this
end
structure Flies (h : Heap) (H : Hp) (low : Nat) (a C T : Addr) (dx : Option Addr) (vs : Array Value) : Prop where
  at_ : H a = some (XcO a C dx vs)
  tr : vs[1]? = some (.ref T)
  new : low ≤ T
  free : H T = none
  ne : T ≠ a
  dict : ∀ y, dx = some y → ∃ fs, H y = some (.xd fs)
  recd : ∃ oT ts, h.get? T = some oT ∧ oT.data = .fields ts ∧ ts[3]? = some .none
theorem dict_upd {H : Hp} {a C : Addr} {dx : Option Addr} {vs vs' : Array Value} (e : H a = some (XcO a C dx vs)) (d : ∀ y, dx = some y → ∃ fs, H y = some (.xd fs)) : ∀ y, dx = some y → ∃ fs, (upd H a (XcO a C dx vs')) y = some (.xd fs) := fun y q => by
  obtain ⟨fs, z⟩ := d y q
  refine ⟨fs, ?_⟩
  rw [upd_ne (ne_of z e (by intro z; cases z))]
  exact z
def CX1 (P : Program) (w : World) : CXT := fun outer H s E e s' => ∃ (a T C : Addr) (dx : Option Addr) (vs : Array Value) (H' : Hp), e = .ref a ∧ s'.os = s.os ∧ AllBare s'.gens ∧ Un (frs outer) [] H H' s.heap s'.heap ∧ HOk P w H' s'.heap ∧ s.heap.objs.size ≤ s'.heap.objs.size ∧
  Flies s'.heap H' s.heap.objs.size a C T dx vs ∧ ∀ vs', E (.ref C) (some a) (upd H' a (XcO a C dx vs'))
end L2

set_option Elab.async false
set_option linter.all false
set_option maxRecDepth 100000
set_option maxHeartbeats 4000000
namespace L2
open PySem PySem.Spec PyProof.Rows
section
variable {X : Cx} {pins : List (Addr × Obj)} {σ : St} {H H1 : Hp} {s s1 : Shared} {a C T : Addr} {dx : Option Addr} {vs : Array Value}
theorem Inv.beyond (I : Inv X pins σ H s) {b : Addr} (hb : s.heap.objs.size ≤ b) : X.s₀.heap.objs.size ≤ b ∧ b ≠ X.env.locals ∧ (∀ x c, X.env.cells.lookup x = some c → c ≠ b) ∧ (∀ p ∈ X.pn ++ pins, p.1 ≠ b) ∧ b ∉ frs X.stack := by
  refine ⟨Nat.le_trans I.sz hb, Nat.ne_of_gt (Nat.lt_of_lt_of_le I.lt hb), fun x c e z => ?_, fun p hp z => ?_, fun z => ?_⟩
  · obtain ⟨v, o, ho, _⟩ := I.cell x c e
    rw [z] at ho
    exact absurd (Nat.lt_of_lt_of_le (Heap.lt_size ho) hb) (Nat.lt_irrefl _)
  · obtain ⟨ho, _⟩ := I.pin p hp
    rw [z] at ho
    exact absurd (Nat.lt_of_lt_of_le (Heap.lt_size ho) hb) (Nat.lt_irrefl _)
  · obtain ⟨_, o, ho, _⟩ := I.stack.mem z
    exact absurd (Nat.lt_of_lt_of_le (Heap.lt_size ho) hb) (Nat.lt_irrefl _)
theorem Flies.xat {n : Nat} (F : Flies s1.heap H1 n a C T dx vs) (J : Inv X pins σ H1 s1) : Heap.XAt (apart X s1.heap a [T]) X.stack a C dx T .none s1.heap := by
  obtain ⟨oT, ts, h1, h2, h3⟩ := F.recd
  exact ⟨apart_stays, apart_none (.inl rfl), apart_frames J, vs, oT, ts, xco_get J.hok F.at_, F.tr, apart_none (.inr (.inl (by simp))), F.ne, h1, h2, h3⟩
theorem Flies.on {h' : Heap} {T' : Addr} (F : Flies s1.heap H1 s.heap.objs.size a C T dx vs) (I : Inv X pins σ H s) (J : Inv X pins σ H1 s1) (x : Heap.XAt (apart X s1.heap a [T]) X.stack a C dx T' .none h') (up : s1.heap.UpToSlots h') (hn : s1.heap.objs.size ≤ T' ∨ T' = T)
    (hz : s.heap.objs.size ≤ s1.heap.objs.size) :
    ∃ vs', Inv X pins σ (upd H1 a (XcO a C dx vs')) { s1 with heap := h' } ∧ Flies h' (upd H1 a (XcO a C dx vs')) s.heap.objs.size a C T' dx vs' := by
  obtain ⟨x1, x2, x3, vs', oT, ts, he, h1, hnT, hTe, hT, hdT, h3⟩ := x
  obtain ⟨b1, b2, b3, b4, b5⟩ := I.beyond F.new
  have w : s.heap.objs.size ≤ T' ∧ H1 T' = none := by
    rcases hn with z | z
    · exact ⟨Nat.le_trans hz z, J.hok.fresh z⟩
    · rw [z]; exact ⟨F.new, F.free⟩
  refine ⟨vs', J.shaken F.at_ (fun b hb => ?_) (fun b hb => ?_) x1 up he, ⟨upd_same, h1, w.1, ?_, hTe, dict_upd F.at_ F.dict, oT, ts, hT, hdT, h3⟩⟩
  · have e : b = T := by simpa using hb
    rw [e]; exact F.free
  · have e : b = T := by simpa using hb
    rw [e]; exact ⟨b1, b2, b3, b4⟩
  · rw [upd_ne hTe]; exact w.2
end
/-! ### an exception leaves a def -/
theorem Flies.low {h : Heap} {H : Hp} {m n : Nat} {a C T : Addr} {dx : Option Addr} {vs : Array Value} (F : Flies h H m a C T dx vs) (l : n ≤ m) : Flies h H n a C T dx vs := ⟨F.at_, F.tr, Nat.le_trans l F.new, F.free, F.ne, F.dict, F.recd⟩
section
variable {P : Program} {w : World} {K : PySem.W.Frag} {mg : Str → Option Value} {base : Heap} {N : List Str} {qual : Str} {scope : Scope} {f : Addr} {cd : Value} {A : Around} {outer : List Env} {s₀ : Shared} {H₀ : Hp} {E : XK}
theorem passes1 : Passes (CX1 P w) (cxOf (CX1 P w) P w K mg base N qual scope f cd A outer s₀ H₀ E) E := by
  intro pins σ H1 s1 e s' I h
  obtain ⟨a, T, C, dx, vs, H2, rfl, os, gb, un, hok, hz, F, hE⟩ := h
  have J := I.call' os un hok gb (fun b hb => absurd hb (by simp))
  refine x_leave_next (L := s₀.heap.objs.size) I.ok.frames rfl (F.xat J) fun h' T' x up hn => ?_
  obtain ⟨vs', J', F'⟩ := F.on I J x up (.inl hn) hz
  refine ⟨a, T', C, dx, vs', _, rfl, J'.os, J'.bare, J'.base, J'.hok, J'.sz, F'.low I.sz, fun vs2 => ?_⟩
  rw [upd_upd]
  exact hE vs2
end
/-! ### an exception is made -/
theorem ObjOk.there {P : Program} {w : World} {H : Hp} {h : Heap} {a : Addr} {o : HO} (x : ObjOk P w H h a o) : ∃ ob, h.get? a = some ob := by
  cases o with
  | lst xs => obtain ⟨_, _, _, _, e⟩ := x; exact ⟨_, e⟩
  | tup xs => obtain ⟨_, _, _, o, e, _⟩ := x; exact ⟨_, e⟩
  | dK kvs => obtain ⟨_, _, _, _, o, _, _, e, _⟩ := x; exact ⟨_, e⟩
  | dT kvs => obtain ⟨_, _, _, _, o, _, _, e, _⟩ := x; exact ⟨_, e⟩
  | set S n => obtain ⟨o, _, _, _, e, _⟩ := x; exact ⟨_, e⟩
  | ins C dx fs => obtain ⟨_, _, _, e, _⟩ := x; exact ⟨_, e⟩
  | own y => exact x
  | xd fs => obtain ⟨_, ⟨_, _, _, e, _⟩, _⟩ := x; exact ⟨_, e⟩
  | rng lo hi => obtain ⟨_, _, _, e⟩ := x; exact ⟨_, e⟩
  | frz ob u => obtain ⟨e, _⟩ := x; exact ⟨_, e⟩
  | tbl lp lq => obtain ⟨_, e, _⟩ := x; exact ⟨_, e⟩
  | met f y => exact ⟨_, (show h.get? a = some _ from x)⟩
  | ext φ => exact x.2.1
section
variable {X : Cx} {pins : List (Addr × Obj)} {σ : St} {H : Hp} {s : Shared}
theorem Inv.xmade {h' : Heap} {e C : Addr} {us : List Value} (I : Inv X pins σ H s) (hm : Heap.MadeExcOf s.heap h' e (.ref C) us) :
    ∃ t, H e = none ∧ Inv X pins σ (upd H e (XcO e C none #[.ref t, .none, .none, .none, .bool false, .none])) { s with heap := h' } := by
  obtain ⟨t, g1, g2, g3⟩ := hm.there
  have hn : H e = none := by
    cases q : H e with
    | none => rfl
    | some o =>
      obtain ⟨ob, z⟩ := (I.hok e o q).there
      rw [hm.new] at z
      cases z
  refine ⟨t, hn, I.un (t' := s.toks) ⟨fun b o q _ _ _ => hm.keeps b o q, fun b o q _ _ _ => ⟨o.slots, hm.keeps b o q⟩, fun b o q n _ => ?_, fun b o q _ => ⟨o, hm.keeps b o q⟩, fun b xs q => ?_, fun b o u q => ?_, fun b lp lq q => ?_⟩ fun b u q => ?_⟩
  · rw [upd_ne (fun z => by subst z; rw [hm.new] at q; cases q)]
    exact n
  · rw [upd_ne (ne_of_none q hn)]
    exact q
  · rw [upd_ne (ne_of_none q hn)]
    exact q
  · rw [upd_ne (ne_of_none q hn)]
    exact q
  · by_cases hb : b = e
    · subst hb
      rw [upd_same] at q
      cases q
      exact xco_ok g1
    · rw [upd_ne hb] at q
      exact (I.hok b u q).stay (fun c v _ z => hm.keeps c v z) (fun c z => by rw [upd_ne (ne_of_none z hn)]; exact z) (fun c xs z => by rw [upd_ne (ne_of_none z hn)]; exact z) fun c ob xs z => by rw [upd_ne (ne_of_none z hn)]; exact z
end
structure XMk (K : PySem.W.Frag) (C : Addr) (ini : Option Addr) : Prop where
  cls : XCls K C
  xc : PySem.W.xcIn K C ini = true
  kp : PySem.W.keepIn K (.ref C) = true
  fn : ∀ f, ini = some f → PySem.W.isFn K (.ref f) = true
def spXInit (K : PySem.W.Frag) (C : Addr) (f : Str) : Sp := fun vs H Q _ => ∃ a v ws, vs = [.ref a, v] ∧ XCls K C ∧ NoAttr K C f ∧ H a = some (XcO a C none ws) ∧
  ∀ d H2, (∀ b o, b ≠ a → H b = some o → H2 b = some o) → H d = none → H2 a = some (XcO a C (some d) ws) → H2 d = some (.xd [(f, v)]) → Q .non H2
def tXMake (C : Addr) (f : Str) (t : TA) : TE := fun σ H Q => t σ H fun vs H1 => ∃ v, vs = [v] ∧ ∀ a d ws H2, Same H1 H2 → H1 a = none → ws[1]? = some Value.none → H2 a = some (XcO a C (some d) ws) → H2 d = some (.xd [(f, v)]) → Q (.ref a) H2
def tXMake0 (C : Addr) : TE := fun σ H Q => ∀ a ws H2, Same H H2 → H a = none → ws[1]? = some Value.none → H2 a = some (XcO a C none ws) → Q (.ref a) H2
section
variable {X : Cx} {k : Nat} {fI C : Addr} {fd : FuncData} {ps : List Str} {x fn : Str} {p pos : Pos} {e : Expr} {es : List Expr} {t : TA}
theorem run_xmake {pins : List (Addr × Obj)} {σ : St} {H : Hp} {s : Shared} {Q : VK} {us : List Value} {v : V} (M : XMk X.K C (some fI)) (n : NoAttr X.K C fn) (F : FnOk X.prog X.w X.K X.mg X.base CX0 k fI fd ps (spXInit X.K C fn)) (hr : Room (k + 1) X.A) (hb : Binds X.K fd ps [])
    (I : Inv X pins σ H s) (r : Vals [v] us)
    (h : ∀ a d ws H2, Same H H2 → H a = none → ws[1]? = some Value.none → H2 a = some (XcO a C (some d) ws) → H2 d = some (.xd [(fn, v)]) → Q (.ref a) H2) :
    wpAny (model X.prog X.w) X.A (call (.ref C) us) (EP X pins σ Q) X.xe s := by
  obtain ⟨nm, q, N, bs, bm, sn, sub, ab, col, dd, k0, k1, k2, k3, k5, mN, hC, hNs, hini, T, hrf⟩ := (PySem.W.xc_of I.kIn M.xc).ex
  have hfn := M.fn fI rfl
  obtain ⟨oI, hfI, hfc⟩ : ∃ oI, s.heap.get? fI = some oI ∧ oI.cls = .type "function" := PySem.W.fn_obj I.kIn hfn
  have hu1 : us.length ≤ sizeLine := by rw [← r.length]; exact sz 1 (by decide)
  obtain ⟨hp, g, dr, tk, os⟩ := s
  refine xc_call PySem.F.excBase_ValueError T hC hNs hini hfI hfc (fun h' a hm => ?_) hu1
  obtain ⟨t0, hn, I2⟩ := Inv.xmade (s := ⟨hp, g, dr, tk, os⟩) I hm
  have r2 : Vals [V.ref a, v] (Value.ref a :: us) := .cons rfl r
  have hq : spXInit X.K C fn [V.ref a, v] (upd H a (XcO a C none #[.ref t0, .none, .none, .none, .bool false, .none])) (fun v H2 => v = .non ∧ Q (.ref a) H2) E0 := by
    refine ⟨a, v, _, rfl, M.cls, n, upd_same, fun d H2 k1 hd k2 k3 => ⟨rfl, ?_⟩⟩
    refine h a d _ H2 (fun b o q => k1 b o (ne_of_none q hn) ?_) hn rfl k2 k3
    rw [upd_ne (ne_of_none q hn)]
    exact q
  have hl : (Value.ref a :: us ++ []).length = ps.length := by
    have e := r2.length
    rw [F.len _ _ _ _ hq] at e
    rw [List.append_nil]
    exact e.symm
  have hb2 := hb ⟨h', g, dr, tk, os⟩ (Value.ref a :: us) I2.kIn hl
  rw [List.append_nil] at hb2
  refine wpAny_call (codeAny_mono (F.run _ X.stack _ _ ⟨Value.ref a :: us, []⟩ (Value.ref a :: us) _ _ E0 (hr.make C us []) (I2.env0.make C us []) hb2 r2 hq) fun r s' hq' => ?_)
  cases r with
  | error e => exact hq'.elim
  | ok fl =>
    cases fl with
    | ret u =>
      obtain ⟨v, H', I3, rv, ev, q3⟩ := I2.after hq'
      subst ev
      exact ⟨rv, ⟨V.ref a, H', I3, rfl, q3⟩⟩
    | next => exact False.elim hq'
    | brk => exact False.elim hq'
    | cont => exact False.elim hq'
theorem pe_xmake (M : XMk X.K C (some fI)) (n : NoAttr X.K C fn) (F : FnOk X.prog X.w X.K X.mg X.base CX0 k fI fd ps (spXInit X.K C fn)) (hr : Room (k + 1) X.A) (hb : Binds X.K fd ps []) (hg : Gl X x) (hm : X.mg x = some (.ref C))
    (ha : PA X (e :: es) t) (hdb : (x == ("__debug__" : Str)) = false := by decide) (he : starEach (e :: es) X.env = (false, eval e X.env) :: starEach es X.env := by rfl) (hpl : (backTo pos (starEach es X.env)).any (·.1) = false := by rfl) :
    PE X (.Call (.Name x p) (e :: es) [] pos) (tXMake C fn t) := by
  with_unfolding_all
    intro pins s σ H Q I h
    refine wpAny_Call_Name_kw (ld_glob I hg hm ?_ hdb)
    refine PySem.W.callWith_K (h₀ := X.base) I.ok.mod.kin M.kp (thn (ha pos pins s σ H _ I h) fun us s1 ⟨vs, H1, I1, r, v, ev, q⟩ => ⟨I1.kIn, ?_⟩) he hpl
    subst ev
    exact run_xmake M n F hr hb I1 r q
theorem pe_xmake0 (M : XMk X.K C none) (hg : Gl X x) (hm : X.mg x = some (.ref C)) (hdb : (x == ("__debug__" : Str)) = false := by decide) : PE X (.Call (.Name x p) [] [] pos) (tXMake0 C) := by
  with_unfolding_all
    intro pins s σ H Q I h
    refine wpAny_Call_Name_kw (ld_glob I hg hm ?_ hdb)
    refine PySem.W.callWith_K0 I.kIn M.kp ?_
    obtain ⟨nm, q, N, bs, bm, sn, sub, ab, col, dd, k0, k1, k2, k3, k5, mN, hC, hNs, hini, T, hrf⟩ := (PySem.W.xc_of I.kIn M.xc).ex
    obtain ⟨hp, g, dr, tk, os⟩ := s
    refine wpAny_call_exc_subT PySem.F.excBase_ValueError T hC hNs hini fun h' a hm => ?_
    obtain ⟨t0, hn, I2⟩ := Inv.xmade (s := ⟨hp, g, dr, tk, os⟩) I hm
    exact ⟨.ref a, _, I2, rfl, h a _ _ (same_new hn _) hn rfl upd_same⟩
end
/-! ### raise -/
theorem x_raiseStmt {M : Model} {A : Around} {E : Value → Shared → Prop} {env : Env} {s : Shared} {x : Sem Value} {Q : Flow → Shared → Prop} {C : Addr} (hh : A.handled = none)
    (h : wpAny M A x (fun v s₁ => ∃ e dx vs nm q N bs bm sn sub ab col dd k0 k1 k2 k3 k5, v = .ref e ∧ s₁.heap.get? C = some (excClassObj nm q C N bs bm true sn sub ab col dd k0 k1 k2 k3 k5 "ValueError.__new__") ∧ bm.contains (.type "BaseException") = true ∧
      s₁.heap.get? e = some (xobj C dx vs) ∧ vs[1]? = some .none ∧ E (.ref e) s₁) E s) :
    wpAny M A (raiseStmt env (some x) none) Q E s := by
  unfold raiseStmt
  refine wpAny_bind (wpAny_mono h (fun v s₁ h₁ => ?_) fun _ _ x => x)
  obtain ⟨e, dx, vs, nm, q, N, bs, bm, sn, sub, ab, col, dd, k0, k1, k2, k3, k5, rfl, hC, hbase, he, h1, hE⟩ := h₁
  have hcB : (Value.ref C :: bm).contains (.type "BaseException") = true := by rw [List.contains_cons, hbase, Bool.or_true]
  obtain ⟨hp, g, d, tk, os⟩ := s₁
  repeat (first | with_reducible refine wpAny_loadPart_at he ?_ | with_reducible refine wpAny_loadPart_at hC ?_ | (with_reducible refine wpAny_isSubtype_exc hC ?_; rw [hcB]) | wp_step)
  rw [h1]
  refine wpAny_pure ?_
  rw [if_neg (by decide)]
  exact wpAny_pure (wpAny_raiseNew_none hh hE)
section
variable {P : Program} {w : World} {K : PySem.W.Frag} {mg : Str → Option Value} {base : Heap} {N : List Str} {qual : Str} {scope : Scope} {f : Addr} {cd : Value} {A : Around} {outer : List Env} {s₀ : Shared} {H₀ : Hp} {E : XK}
theorem x_thrown {pins : List (Addr × Obj)} {σ : St} {H : Hp} {s : Shared} {a C : Addr} {dx : Option Addr} {vs : Array Value} (I : Inv (cxOf (CX1 P w) P w K mg base N qual scope f cd A outer s₀ H₀ E) pins σ H s) (ea : H a = some (XcO a C dx vs)) (h1 : vs[1]? = some .none) (hd : ∀ y, dx = some y → ∃ fs, H y = some (.xd fs))
    (hE : ∀ vs', E (.ref C) (some a) (upd H a (XcO a C dx vs'))) : (cxOf (CX1 P w) P w K mg base N qual scope f cd A outer s₀ H₀ E).xe (.ref a) s := by
  refine x_leave_first (base := apart (cxOf (CX1 P w) P w K mg base N qual scope f cd A outer s₀ H₀ E) s.heap a []) (L := s₀.heap.objs.size) I.ok.frames (apart_frames I) rfl (xco_get I.hok ea) apart_stays (apart_none (.inl rfl)) h1 fun h' T' x up hn => ?_
  obtain ⟨x1, x2, x3, vs', oT, ts, he, h1, hnT, hTe, hT, hdT, h3⟩ := x
  have J := I.shaken (Ts := []) ea (fun b hb => absurd hb (by simp)) (fun b hb => absurd hb (by simp)) x1 up he
  refine ⟨a, T', C, dx, vs', _, rfl, J.os, J.bare, J.base, J.hok, J.sz, ⟨upd_same, h1, Nat.le_trans I.sz hn, ?_, hTe, dict_upd ea hd, oT, ts, hT, hdT, h3⟩, fun vs2 => ?_⟩
  · rw [upd_ne hTe]
    exact I.hok.fresh hn
  · rw [upd_upd]
    exact hE vs2
def sRaise (C : Addr) (te : TE) (E : XK) : TS := fun _ σ H => te σ H fun v H1 => ∃ a dx vs, v = .ref a ∧ H1 a = some (XcO a C dx vs) ∧ vs[1]? = some Value.none ∧ (∀ y, dx = some y → ∃ fs, H1 y = some (.xd fs)) ∧ ∀ vs', E (.ref C) (some a) (upd H1 a (XcO a C dx vs'))
theorem ps_raise {C : Addr} {e : Expr} {pos : Pos} {te : TE} (hc : XCls K C) (hh : A.handled = none) (he : PE (cxOf (CX1 P w) P w K mg base N qual scope f cd A outer s₀ H₀ E) e te) :
    PS (cxOf (CX1 P w) P w K mg base N qual scope f cd A outer s₀ H₀ E) (.Raise (some e) none pos) (sRaise C te E) := by
  with_unfolding_all
    intro pins s σ H D I h
    rw [arm_exec_Raise]
    refine wpAny_bind (wpAny_standAt (x_raiseStmt (C := C) hh ?_))
    simp only [evalOpt, Option.map]
    refine wpAny_bind (thn (he pins s σ H _ I h) fun u s1 ⟨v, H1, I1, r, a, dx, vs, ev, ea, h1, hd, hE⟩ => wpAny_bind (wpAny_standAt (wpAny_pure ?_)))
    subst ev
    cases (show u = Value.ref a from r)
    obtain ⟨ini, hi⟩ := hc.xc
    obtain ⟨nm, q, N, bs, bm, sn, sub, ab, col, dd, k0, k1, k2, k3, k5, mN, hC, hNs, hini, T, hrf⟩ := (PySem.W.xc_of I1.kIn hi).ex
    exact ⟨a, dx, vs, nm, q, N, bs, bm, sn, sub, ab, col, dd, k0, k1, k2, k3, k5, rfl, hC, T.hasType (X := "BaseException") (b := true) (by decide +kernel), xco_get I1.hok ea, h1, x_thrown I1 ea h1 hd hE⟩
end
end L2

set_option Elab.async false
set_option linter.all false
set_option maxRecDepth 100000
set_option maxHeartbeats 4000000
namespace L2
open PySem PySem.Spec PyProof.Rows
/-! ## try: the body at one state of the names -/
def PE1 (X : Cx) (σ : St) (e : Expr) (t : TE) : Prop :=
  ∀ (pins : List (Addr × Obj)) (s : Shared) (H : Hp) (Q : VK), Inv X pins σ H s → t σ H Q → wpAny (model X.prog X.w) X.A (eval e X.env) (EP X pins σ Q) X.xe s
def PS1 (X : Cx) (σ : St) (st : Stmt) (t : TS) : Prop :=
  ∀ (pins : List (Addr × Obj)) (s : Shared) (H : Hp) (D : Ends), Inv X pins σ H s → t D σ H → wpAny (model X.prog X.w) X.A (exec st X.env) (SP X pins D) X.xe s
def PSs1 (X : Cx) (σ : St) (st : List Stmt) (t : TS) : Prop :=
  ∀ (pins : List (Addr × Obj)) (s : Shared) (H : Hp) (D : Ends), Inv X pins σ H s → t D σ H → wpAny (model X.prog X.w) X.A (execs st X.env) (SP X pins D) X.xe s
section
variable {X : Cx} {σ : St}
theorem pss_one1 {st : Stmt} {t : TS} (h : PS1 X σ st t) : PSs1 X σ [st] t := by
  intro pins s H D I q
  refine wpAny_execs_cons (thn (h pins s H D I q) fun f s1 q => ?_)
  cases f with
  | next => exact wpAny_execs_nil q
  | ret v => exact q
  | brk => exact q
  | cont => exact q
theorem ps_set1 {i : Nat} {x : Str} {e : Expr} {te : TE} {pos pos' : Pos} (hN : X.N.Nodup) (hi : X.N[i]? = some x) (hx : Loc X.env.scope x) (he : PE1 X σ e te) (hs : swapsWith e (some (.Name x pos')) pos.line X.env = pure false := by rfl) (hf : X.fn x = true ∨ X.env.scope.names.lookup x = some .local := by first | exact .inl rfl | exact .inr rfl | assumption) :
    PS1 X σ (.Assign [.Name x pos'] e pos) (tAsg te (gName i)) := by
  intro pins s H D I h
  refine wpAny_Assign_Name (thn (he pins s H _ I h) fun v s1 ⟨y, H1, I1, r1, q1⟩ => ?_) hs
  exact store_ok I1 hN hi hx r1 (fun s2 I2 => ⟨_, H1, I2, q1⟩) hf
theorem ps_if1 {c : Expr} {a b : List Stmt} {tc : TT} {t u : TS} {pos : Pos} (hc : PT X c tc) (ha : PSs1 X σ a t) (hb : PSs1 X σ b u) : PS1 X σ (.If c a b pos) (tIfS tc t u) := by
  with_unfolding_all
    intro pins s H D I h
    refine wpAny_If (thn (hc pins s σ H _ I h) fun d s1 ⟨H1, I1, q1⟩ => ?_)
    cases d with
    | true => exact ha pins s1 H1 D I1 q1
    | false => exact hb pins s1 H1 D I1 q1
end
/-! ### the context of a try's body; of a handler's suite -/
structure Aside (X : Cx) (pins : List (Addr × Obj)) (b : Addr) : Prop where
  p : X.s₀.heap.objs.size ≤ b ∧ b ≠ X.env.locals ∧ (∀ x c, X.env.cells.lookup x = some c → c ≠ b) ∧ ∀ p ∈ X.pn ++ pins, p.1 ≠ b
def Caught (X : Cx) (pins : List (Addr × Obj)) (σ : St) (W : XK) (e : Value) (s' : Shared) : Prop :=
  ∃ a T C dx vs H', e = .ref a ∧ Inv X pins σ H' s' ∧ Flies s'.heap H' 0 a C T dx vs ∧ Aside X pins T ∧ ∀ vs', W (.ref C) (some a) (upd H' a (XcO a C dx vs'))
abbrev cxTry (X : Cx) (pins : List (Addr × Obj)) (σ : St) (W : XK) : Cx := { X with pn := X.pn ++ pins, xe := Caught X pins σ W }
abbrev cxH (X : Cx) (a : Addr) : Cx := { X with A := X.A.mark (some (.ref a)), calm := false, xe := fun _ _ => False }
section
variable {X : Cx} {pins pins' : List (Addr × Obj)} {σ τ : St} {H : Hp} {s : Shared} {W : XK}
theorem Inv.inTry (I : Inv X pins σ H s) : Inv (cxTry X pins τ W) [] σ H s :=
  ⟨⟨I.ok.mod, I.ok.kind, I.ok.glob, I.ok.blt, I.ok.above, I.ok.inj, I.ok.has, I.ok.cab, I.ok.hd, I.ok.frames, I.ok.stk, I.ok.exf, I.ok.bs, I.ok.bsz, I.ok.noex, I.ok.exfs, I.ok.funs, I.ok.frf⟩, I.os, I.bare, I.base, I.loc, I.cell, I.free, I.freeC, fun p hp => I.pin p (by simpa using hp), I.hok, I.len⟩
theorem Inv.outTry (I : Inv (cxTry X pins τ W) pins' σ H s) : Inv X pins σ H s :=
  ⟨⟨I.ok.mod, I.ok.kind, I.ok.glob, I.ok.blt, I.ok.above, I.ok.inj, I.ok.has, I.ok.cab, I.ok.hd, I.ok.frames, I.ok.stk, I.ok.exf, I.ok.bs, I.ok.bsz, I.ok.noex, I.ok.exfs, I.ok.funs, I.ok.frf⟩, I.os, I.bare, I.base, I.loc, I.cell, I.free, I.freeC, fun p hp => I.pin p (List.mem_append_left _ hp), I.hok, I.len⟩
theorem Inv.inH (I : Inv X pins σ H s) (a : Addr) : Inv (cxH X a) pins σ H s :=
  ⟨⟨I.ok.mod, I.ok.kind, I.ok.glob, I.ok.blt, I.ok.above, I.ok.inj, I.ok.has, I.ok.cab, (fun z => by cases z), I.ok.frames, I.ok.stk, I.ok.exf, I.ok.bs, I.ok.bsz, I.ok.noex, I.ok.exfs, I.ok.funs, I.ok.frf⟩, I.os, I.bare, I.base, I.loc, I.cell, I.free, I.freeC, I.pin, I.hok, I.len⟩
theorem Inv.outH {a : Addr} (hc : X.calm = true → X.A.handled = none) (I : Inv (cxH X a) pins σ H s) (hfr : X.A.frames = some X.stack) : Inv X pins σ H s :=
  ⟨⟨I.ok.mod, I.ok.kind, I.ok.glob, I.ok.blt, I.ok.above, I.ok.inj, I.ok.has, I.ok.cab, hc, hfr, I.ok.stk, I.ok.exf, I.ok.bs, I.ok.bsz, I.ok.noex, I.ok.exfs, I.ok.funs, I.ok.frf⟩, I.os, I.bare, I.base, I.loc, I.cell, I.free, I.freeC, I.pin, I.hok, I.len⟩
theorem SP.outTry {D : Ends} {f : Flow} (h : SP (cxTry X pins τ W) pins' D f s) : SP X pins D f s := by
  cases f with
  | next => obtain ⟨σ', H', I, q⟩ := h; exact ⟨σ', H', I.outTry, q⟩
  | brk => obtain ⟨σ', H', I, q⟩ := h; exact ⟨σ', H', I.outTry, q⟩
  | cont => obtain ⟨σ', H', I, q⟩ := h; exact ⟨σ', H', I.outTry, q⟩
  | ret u => obtain ⟨v, σ', H', I, r, q⟩ := h; exact ⟨v, σ', H', I.outTry, r, q⟩
theorem try_passes {e : Value} {s' : Shared} (I : Inv (cxTry X pins σ W) pins' σ H s) (h : CX1 X.prog X.w X.stack H s W e s') : (cxTry X pins σ W).xe e s' := by
  obtain ⟨a, T, C, dx, vs, H2, rfl, os, gb, un, hok, hz, F, hE⟩ := h
  have J := I.call' os un hok gb (fun b hb => absurd hb (by simp))
  obtain ⟨b1, b2, b3, b4, b5⟩ := I.beyond F.new
  exact ⟨a, T, C, dx, vs, H2, rfl, J.outTry, F.low (Nat.zero_le _), ⟨b1, b2, b3, fun p hp => b4 p (List.mem_append_left _ hp)⟩, hE⟩
end
structure Cal1 (P : Program) (w : World) (K : PySem.W.Frag) (mg : Str → Option Value) (base : Heap) (x : Str) (k : Nat) (ps : List Str) (sp : Sp) : Prop where
  ex : ∃ f fd, FnOk P w K mg base (CX1 P w) k f fd ps sp ∧ Binds K fd ps [] ∧ mg x = some (.ref f) ∧ PySem.W.keepIn K (.ref f) = true
theorem Dfn.cal1 {P : Program} {w : World} {K : PySem.W.Frag} {mg : Str → Option Value} {base : Heap} {x : Str} {st : Stmt} {ps : List Str} {f : Addr} {fd : FuncData} {k : Nat} {sp : Sp}
    (D : Dfn K mg x st ps f fd) (G : FnOk P w K mg base (CX1 P w) k f fd ps sp) : Cal1 P w K mg base x k ps sp := ⟨⟨f, fd, G, D.b, D.m, D.F.kp⟩⟩
theorem Fun.ok1 {P : Program} {w : World} {K : PySem.W.Frag} {mg : Str → Option Value} {base : Heap} {x qual : Str} {st : Stmt} {f : Addr} {fd : FuncData} {N ps : List Str} {k : Nat} {sp : Sp} (F : Fun K x qual st f fd) (S : FnScope N ps (defScope st)) (len : ∀ vs H Q E, sp vs H Q E → vs.length = ps.length)
    (hbody : ∀ (cdv : Value) (A : Around) (outer : List Env) (s : Shared) (H : Hp) (vs : List V) (Q : VK) (E : XK), Room k (A.deeper (envOfC qual (defScope st) s.heap.objs.size f cdv)) → sp vs H Q E →
      ∃ t, PSs (cxOf (CX1 P w) P w K mg base N qual (defScope st) f cdv A outer s H E) (defBody st) t ∧ t { nx := fun _ H' => Q .non H', rt := Q } (start N vs) H) : FnOk P w K mg base (CX1 P w) (k + 1) f fd ps sp := by
  obtain ⟨oc, od, kV, doc, pm, an, cdv, ct, osl, rfl, lk, hcd⟩ := F.ex
  exact fn_of lk hcd S len fun A outer s H vs Q E hr hsp => hbody cdv A outer s H vs Q E hr hsp
section
variable {X : Cx} {k : Nat} {ps : List Str} {sp : Sp} {x : Str} {p pos : Pos} {e : Expr} {es : List Expr} {t : TA}
theorem pe_cal1 {E : XK} (C : Cal1 X.prog X.w X.K X.mg X.base x k ps sp) (hx : Passes (CX1 X.prog X.w) X E) (hr : Room k X.A) (hg : Gl X x) (ha : PA X (e :: es) t) (hdb : (x == ("__debug__" : Str)) = false := by decide)
    (he : starEach (e :: es) X.env = (false, eval e X.env) :: starEach es X.env := by rfl) (hpl : (backTo pos (starEach es X.env)).any (·.1) = false := by rfl) :
    PE X (.Call (.Name x p) (e :: es) [] pos) (tCall sp [] E t) := by
  obtain ⟨f, fd, G, b, m, kp⟩ := C.ex
  exact pe_call G hr hg m kp b .nil hx ha hdb he hpl
theorem pe_calT {pins : List (Addr × Obj)} {σ : St} {W : XK} (C : Cal1 X.prog X.w X.K X.mg X.base x k ps sp) (hr : Room k X.A) (hg : Gl X x) (ha : PA (cxTry X pins σ W) (e :: es) t) (hdb : (x == ("__debug__" : Str)) = false := by decide)
    (he : starEach (e :: es) X.env = (false, eval e X.env) :: starEach es X.env := by rfl) (hpl : (backTo pos (starEach es X.env)).any (·.1) = false := by rfl) :
    PE1 (cxTry X pins σ W) σ (.Call (.Name x p) (e :: es) [] pos) (tCall sp [] W t) := by
  with_unfolding_all
    obtain ⟨f, fd, F, hb, m, kp⟩ := C.ex
    intro pins' s H Q I h
    refine wpAny_Call_Name_kw (ld_glob I hg m ?_ hdb)
    refine PySem.W.callWith_K (h₀ := X.base) I.ok.mod.kin kp (thn (ha pos pins' s σ H _ I h) fun us s1 ⟨vs, H1, I1, r, q⟩ => ⟨I1.kIn, ?_⟩) he hpl
    have r2 : Vals (vs ++ []) (us ++ []) := r.append .nil
    have hl : (us ++ []).length = ps.length := by rw [← r2.length]; exact F.len _ _ _ _ q
    refine wpAny_call (codeAny_mono (F.run X.A X.stack s1 H1 ⟨us, []⟩ (us ++ []) (vs ++ []) Q W hr I1.env0 (hb s1 us I1.kIn hl) r2 q) fun r s' hq => ?_)
    cases r with
    | error e => exact try_passes I1 hq
    | ok fl =>
      cases fl with
      | ret u => exact I1.after hq
      | next => exact False.elim hq
      | brk => exact False.elim hq
      | cont => exact False.elim hq
end
/-! ### handlers -/
abbrev TH := Addr → Addr → Hp → St → Ends → Prop
structure AtH (X : Cx) (pins : List (Addr × Obj)) (σ : St) (H : Hp) (a C : Addr) (dx : Option Addr) (s : Shared) : Prop where
  I : Inv X pins σ H s
  ex : ∃ T vs, Flies s.heap H 0 a C T dx vs ∧ Aside X pins T
def PH (X : Cx) (hs : List ExceptHandler) (t : TH) : Prop := ∀ (pins : List (Addr × Obj)) (σ : St) (H : Hp) (a C : Addr) (dx : Option Addr) (s : Shared) (D : Ends), AtH X pins σ H a C dx s → (∀ vs', t C a (upd H a (XcO a C dx vs')) σ D) →
  wpAny (model X.prog X.w) X.A (handleBy (.ref a) X.env hs) (SP X pins D) X.xe s
def hAs (K : PySem.W.Frag) (Dc : Addr) (i : Nat) (ts : TS) (rest : TH) : TH := fun C a H σ D => ∃ b, PySem.W.mroIn K C (.ref Dc) = some b ∧
  if b = true then ts { nx := fun σ' H' => D.nx (σ'.set i none) H', rt := D.rt, bk := fun σ' H' => D.bk (σ'.set i none) H', ct := fun σ' H' => D.ct (σ'.set i none) H' } (σ.set i (some (.ref a))) H else rest C a H σ D
def hNever : TH := fun _ _ _ _ _ => False
theorem ph_never {X : Cx} {hs : List ExceptHandler} : PH X hs hNever := fun _ _ _ _ _ _ _ _ _ h => (h #[]).elim
theorem AtH.flight {X : Cx} {pins : List (Addr × Obj)} {σ : St} {H : Hp} {a C : Addr} {dx : Option Addr} {s : Shared} {A : Around} {E : Value → Shared → Prop} {Q : Unit → Shared → Prop} (z : AtH X pins σ H a C dx s)
    (h : ∀ s' vs', AtH X pins σ (upd H a (XcO a C dx vs')) a C dx s' → Q () s') : wpAny (model X.prog X.w) A (setFlight (.ref a) none) Q E s := by
  obtain ⟨T, vs, F, G⟩ := z.ex
  refine x_flight (F.xat z.I) fun h' x up => ?_
  obtain ⟨x1, x2, x3, vs', oT, ts, he, h1, hnT, hTe, hT, hdT, h3⟩ := x
  refine h _ vs' ⟨z.I.shaken F.at_ (fun b hb => ?_) (fun b hb => ?_) x1 up he, T, vs', ⟨upd_same, h1, Nat.zero_le _, ?_, hTe, dict_upd F.at_ F.dict, oT, ts, hT, hdT, h3⟩, G⟩
  · have e : b = T := by simpa using hb
    rw [e]; exact F.free
  · have e : b = T := by simpa using hb
    rw [e]; exact G.p
  · rw [upd_ne hTe]; exact F.free
theorem name_goes {X : Cx} {pins : List (Addr × Obj)} {σ : St} {H : Hp} {s : Shared} {M : Model} {A : Around} {E : Value → Shared → Prop} {Q : Unit → Shared → Prop} {i : Nat} {n : Str} {pos : Pos} (I : Inv X pins σ H s) (hN : X.N.Nodup) (hi : X.N[i]? = some n) (hl : X.env.scope.names.lookup n = some .local)
    (h : ∀ s', Inv X pins (σ.set i none) H s' → Q () s') : wpAny M A (do bindName X.env n .none; unbindBehindTheSuite X.env n pos) Q E s := by
  obtain ⟨m, hn, hlo⟩ := id I.loc
  have hcls : (X.env.scope.kind == .class || (X.env.scope.kind == .module && X.env.locals != X.env.globals)) = false := by rw [I.ok.kind]; rfl
  refine wpAny_nameGoes_keeps hl hn hcls fun h' v hn' hs => h _ ?_
  have base : Inv X pins (σ.set i none) H s := I.weak (by simp) fun j w e => by
    by_cases hj : j = i
    · subst hj
      rw [List.getElem?_set] at e
      split at e
      · split at e <;> cases e
      · exact e
    · rw [List.getElem?_set_ne (Ne.symm hj)] at e
      exact e
  obtain ⟨oL, _, _, hoL, _⟩ := id hn
  have tracked : HOk X.prog X.w H h' := fun b ob e => by
    refine (I.hok b ob e).stay (fun c w' hc q => (hs.2 c ?_).trans q) (fun _ q => q) (fun _ _ q => q) fun _ _ _ q => q
    rintro rfl
    rcases hc with z | z
    · rw [← z, I.free] at e; cases e
    · rw [I.free] at z; cases z
  have nl : ∀ b o, X.s₀.heap.get? b = some o → b ≠ X.env.locals := fun b o e => Nat.ne_of_lt (Nat.lt_of_lt_of_le (Heap.lt_size e) I.ok.above)
  refine ⟨I.ok, I.os, I.bare, ⟨fun b o e n hb hx => (hs.2 b (nl b o e)).trans (I.base.keep b o e n hb hx), fun b o e n hb hx => ?_, I.base.free, fun b o e hx => ?_, I.base.tups, I.base.frzs, I.base.tbls⟩, ⟨_, hn', fun j y v' e1 e2 e3 => ?_⟩, fun y c e => ?_, I.free, I.freeC, fun p hp => ?_, tracked, base.len⟩
  · obtain ⟨sl, e1⟩ := I.base.slot b o e n hb hx
    exact ⟨sl, (hs.2 b (nl b o e)).trans e1⟩
  · obtain ⟨o', e1⟩ := I.base.there b o e hx
    exact ⟨o', (hs.2 b (nl b o e)).trans e1⟩
  · have hj : j ≠ i := by
      rintro rfl
      rw [List.getElem?_set] at e2
      split at e2
      · split at e2 <;> cases e2
      · rename_i z; exact absurd rfl z
    rw [List.getElem?_set_ne (Ne.symm hj)] at e2
    obtain ⟨u', r', q⟩ := hlo j y v' e1 e2 e3
    refine ⟨u', r', ?_⟩
    rcases q with ⟨k, e⟩ | ⟨k, c, e, z⟩
    · refine .inl ⟨k, ?_⟩
      have : y ≠ n := fun e => hj (nodup_ix hN e1 (e ▸ hi))
      simp [this, e]
    · exact .inr ⟨k, c, e, z.sameBut hs (I.cne y c e)⟩
  · obtain ⟨w', z⟩ := I.cell y c e
    exact ⟨w', z.sameBut hs (I.cne y c e)⟩
  · obtain ⟨e, n, ne, nf, d⟩ := I.pin p hp
    exact ⟨(hs.2 p.1 ne).trans e, n, ne, nf, d⟩
section
variable {X : Cx} {Dc : Addr} {i : Nat} {n d : Str} {np pos : Pos} {b₀ : Stmt} {suite : List Stmt} {rest : List ExceptHandler} {ts : TS} {tr : TH}
theorem AtH.test {pins : List (Addr × Obj)} {σ : St} {H : Hp} {a C : Addr} {dx : Option Addr} {s : Shared} {R : Result → Shared → Prop} {b : Bool} (z : AtH X pins σ H a C dx s) (hg : Gl X d) (hm : X.mg d = some (.ref Dc)) (hb : PySem.W.mroIn X.K Dc (.type "BaseException") = some true)
    (ht : PySem.W.typeIn X.K (.ref Dc) = some (.type "type")) (he : PySem.W.mroIn X.K C (.ref Dc) = some b) (hdb : (d == ("__debug__" : Str)) = false) (h : R (.ok (if b then .brk else .next)) s) :
    codeAny (model X.prog X.w) (X.A.mark (some (.ref a))) (.handlers (.ref a) [.ExceptHandler (some (.Name d np)) none [] pos] X.env) R s := by
  refine codeAny_handlers_test ?_
  obtain ⟨T, vs, F, G⟩ := z.ex
  obtain ⟨od, J⟩ := z.I.inst F.at_ F.dict
  exact ld_glob (X := cxH X a) (z.I.inH a) hg hm (PySem.W.xmatch z.I.kIn J hb ht he h) hdb
theorem ph_as (hs : ∀ a, PSs (cxH X a) (b₀ :: suite) ts) (hr : PH X rest tr) (hN : X.N.Nodup) (hi : X.N[i]? = some n) (hl : X.env.scope.names.lookup n = some .local) (hg : Gl X d) (hm : X.mg d = some (.ref Dc)) (hb : PySem.W.mroIn X.K Dc (.type "BaseException") = some true)
    (ht : PySem.W.typeIn X.K (.ref Dc) = some (.type "type")) (hdb : (d == ("__debug__" : Str)) = false := by decide) : PH X (.ExceptHandler (some (.Name d np)) (some n) (b₀ :: suite) pos :: rest) (hAs X.K Dc i ts tr) := by
  with_unfolding_all
    intro pins σ H a C dx s D z h
    obtain ⟨b, he, _⟩ := h #[]
    have h' : ∀ vs', if b = true then ts { nx := fun σ' H' => D.nx (σ'.set i none) H', rt := D.rt, bk := fun σ' H' => D.bk (σ'.set i none) H', ct := fun σ' H' => D.ct (σ'.set i none) H' } (σ.set i (some (.ref a))) (upd H a (XcO a C dx vs')) else tr C a (upd H a (XcO a C dx vs')) σ D := fun vs' => by
      obtain ⟨b', he', q⟩ := h vs'
      rw [he] at he'
      cases he'
      exact q
    refine wpAny_handleBy_cons (z.test hg hm hb ht he hdb ?_) (by intro q; cases q)
    cases b with
    | false => exact hr pins σ H a C dx s D z fun vs' => by have q := h' vs'; rw [if_neg Bool.false_ne_true] at q; exact q
    | true =>
      refine codeAny_handlers_suite_as (z.flight fun s1 vs1 z1 => ?_)
      have q := h' vs1
      rw [if_pos rfl] at q
      refine store_ok (X := cxH X a) (z1.I.inH a) hN hi (.inl hl) (v := .ref a) rfl (fun s2 I2 => ?_) (.inr hl)
      refine wpAny_mono (hs a pins s2 _ _ _ I2 q) (fun f s3 hsp => ?_) fun _ _ zf => zf.elim
      cases f with
      | next => obtain ⟨σ', H', I3, q3⟩ := hsp; exact name_goes (I3.outH z.I.ok.hd z.I.ok.frames) hN hi hl fun s4 I4 => ⟨_, H', I4, q3⟩
      | brk => obtain ⟨σ', H', I3, q3⟩ := hsp; exact name_goes (I3.outH z.I.ok.hd z.I.ok.frames) hN hi hl fun s4 I4 => ⟨_, H', I4, q3⟩
      | cont => obtain ⟨σ', H', I3, q3⟩ := hsp; exact name_goes (I3.outH z.I.ok.hd z.I.ok.frames) hN hi hl fun s4 I4 => ⟨_, H', I4, q3⟩
      | ret u => obtain ⟨v, σ', H', I3, r3, q3⟩ := hsp; exact name_goes (I3.outH z.I.ok.hd z.I.ok.frames) hN hi hl fun s4 I4 => ⟨v, _, H', I4, r3, q3⟩
def tTry (tb : XK → TS) (th : TH) : TS := fun D σ H => Box (∃ W : XK, tb W D σ H ∧ ∀ C a H', (∃ dx vs, H' a = some (XcO a C dx vs)) → W (.ref C) (some a) H' → th C a H' σ D)
theorem ps_try {body : List Stmt} {h₀ : ExceptHandler} {hs : List ExceptHandler} {tb : XK → TS} {th : TH} (hst : X.stack = X.env :: X.outer) (hfm : X.env.frame = some X.env.locals) (hb : ∀ pins σ W, PSs1 (cxTry X pins σ W) σ body (tb W)) (hh : PH X (h₀ :: hs) th) :
    PS X (.Try body (h₀ :: hs) [] [] pos) (tTry tb th) := by
  with_unfolding_all
    intro pins s σ H D I h
    obtain ⟨W, hw, hc⟩ := h.un
    refine wpAny_Try_except (wpAny_mono (hb pins σ W [] s H D I.inTry hw) (fun f s1 q => ?_) fun e s1 q => ?_)
    · cases f with
      | next => exact wpAny_execs_nil q.outTry
      | brk => exact q.outTry
      | cont => exact q.outTry
      | ret u => exact q.outTry
    · obtain ⟨a, T, C, dx, vs, H1, rfl, J, F, G, hW⟩ := q
      have hfr := J.ok.frames
      have xa := F.xat J
      rw [hst] at hfr xa
      refine x_note_next (L := X.env.locals) hfr hfm xa fun h1 T1 x1 up1 hn1 => ?_
      refine x_flight (s := { s1 with heap := h1 }) x1 fun h2 x2 up2 => ?_
      rw [← hst] at x2
      obtain ⟨y1, y2, y3, vs', oT, ts, he, y4, hnT, hTe, hT, hdT, h3⟩ := x2
      obtain ⟨b1, b2, b3, b4, b5⟩ := J.beyond hn1
      have J' := J.shaken F.at_ (fun b hb => by have e : b = T := by simpa using hb
                                                rw [e]; exact F.free) (fun b hb => by have e : b = T := by simpa using hb
                                                                                      rw [e]; exact G.p) y1 (up1.trans up2) he
      refine hh pins σ _ a C dx _ D ⟨J', T1, vs', ⟨upd_same, y4, Nat.zero_le _, ?_, hTe, dict_upd F.at_ F.dict, oT, ts, hT, hdT, h3⟩, ⟨b1, b2, b3, b4⟩⟩ fun vs2 => ?_
      · rw [upd_ne hTe]; exact J.hok.fresh hn1
      · rw [upd_upd]; exact hc C a _ ⟨dx, vs2, upd_same⟩ (hW vs2)
end
end L2

set_option Elab.async false
set_option linter.all false
set_option maxRecDepth 100000
set_option maxHeartbeats 4000000
namespace L2
open PySem PySem.Spec PyProof.Rows
/-! ## exceptions in short words -/
inductive TyX (K : PySem.W.Frag) (H : Hp) : V → Value → Prop where
  | old {x : V} {t : Value} (h : TyOf K H x t) : TyX K H x t
  | exc {a C : Addr} (h : IsX K H a C) : TyX K H (.ref a) (.ref C)
section
variable {X : Cx}
theorem isX_run {pins : List (Addr × Obj)} {σ : St} {H : Hp} {s : Shared} {A : Around} {E : Value → Shared → Prop} {Q : Value → Shared → Prop} {c : Value} {b : Bool} {x : V} {u t : Value} (I : Inv X pins σ H s) (rx : RelV x u) (ty : TyX X.K H x t) (e : PySem.W.kitOne X.K t c = some b) (h : ∀ tk, Q (.bool b) { s with toks := tk }) :
    wpAny (model X.prog X.w) A (call (.builtin "isinstance") [u, c]) Q E s := by
  cases ty with
  | old ty => exact isinst_ok I rx ty e h
  | @exc a C z =>
    cases (show u = Value.ref a from rx)
    obtain ⟨dx, vs, h1, h2⟩ := z.at_
    obtain ⟨od, J⟩ := I.inst h1 h2
    obtain ⟨ini, hi⟩ := z.cls.xc
    exact PySem.W.kia_one (PySem.W.kitx_exc hi z.cls.ga z.cls.gn z.cls.hd z.cls.cl z.cls.cg z.cls.ct z.cls.mo) I.kIn J e (fun z => nomatch z) h
theorem call_isYT {n : String} : CallR X (.builtin "isinstance") (fun xs H Q => ∃ x t b, xs = [x, .ty n] ∧ TyX X.K H x t ∧ PySem.W.kitOne X.K t (.type n) = some b ∧ Q (.bl b) H) := by
  intro pins s σ H xs us Q I r h
  obtain ⟨x, t, b, rfl, ty, e, q⟩ := h
  obtain ⟨u, w', rfl, ru, rw'⟩ := vals2 r
  cases (show w' = Value.type n from rw')
  exact isX_run I ru ty e fun tk => ⟨.bl b, H, I.tok tk, rfl, q⟩
end
/-! ### facts of classes, by their rows of classes above -/
structure XD (K : PySem.W.Frag) (C : Addr) (up : List Value) : Prop where
  cd : ∃ cd, PySem.W.clsIn K C = some cd ∧ cd.mro = .ref C :: up
  ty : PySem.W.typeIn K (.ref C) = some (.type "type")
theorem XD.mro {K : PySem.W.Frag} {C : Addr} {up : List Value} (h : XD K C up) (v : Value) : PySem.W.mroIn K C v = some ((Value.ref C :: up).contains v) := by
  obtain ⟨cd, e, m⟩ := h.cd
  unfold PySem.W.mroIn
  rw [e, Option.bind_some, m, if_neg (by simp)]
structure XCal (P : Program) (w : World) (K : PySem.W.Frag) (mg : Str → Option Value) (base : Heap) (x : Str) (C : Addr) (f : Str) : Prop where
  ex : ∃ fI fd ps, XMk K C (some fI) ∧ NoAttr K C f ∧ FnOk P w K mg base CX0 1 fI fd ps (spXInit K C f) ∧ Binds K fd ps [] ∧ mg x = some (.ref C)
structure XCal0 (K : PySem.W.Frag) (mg : Str → Option Value) (x : Str) (C : Addr) : Prop where
  made : XMk K C none
  m : mg x = some (.ref C)
section
variable {X : Cx} {C : Addr} {f x : Str} {p pos : Pos} {e : Expr} {es : List Expr} {t : TA}
theorem pe_xcal (h : XCal X.prog X.w X.K X.mg X.base x C f) (hr : Room 2 X.A) (hg : Gl X x) (ha : PA X (e :: es) t) (hdb : (x == ("__debug__" : Str)) = false := by decide) (he : starEach (e :: es) X.env = (false, eval e X.env) :: starEach es X.env := by rfl) (hpl : (backTo pos (starEach es X.env)).any (·.1) = false := by rfl) :
    PE X (.Call (.Name x p) (e :: es) [] pos) (tXMake C f t) := by
  obtain ⟨fI, fd, ps, M, n, F, b, m⟩ := h.ex
  exact pe_xmake M n F hr b hg m ha hdb he hpl
theorem pe_xcal0 (h : XCal0 X.K X.mg x C) (hg : Gl X x) (hdb : (x == ("__debug__" : Str)) = false := by decide) : PE X (.Call (.Name x p) [] [] pos) (tXMake0 C) := pe_xmake0 h.made hg h.m hdb
theorem xinit_ok {P : Program} {w : World} {K : PySem.W.Frag} {mg : Str → Option Value} {base : Heap} {qual sf : Str} {st : Stmt} {fI : Addr} {fd : FuncData} {C : Addr} {fn : Str} {p1 p2 p3 p4 : Pos} (F : Fun K "__init__" qual st fI fd) (S : FnScope ["self", sf] ["self", sf] (defScope st))
    (hb : defBody st = [.Assign [.Attribute (.Name "self" p1) fn p2] (.Name sf p3) p4])
    (h1 : (defScope st).names.lookup ("self" : Str) = some NameKind.local) (h2 : (defScope st).names.lookup sf = some NameKind.local) (hd : (sf == ("__debug__" : Str)) = false) (hc : (sf == ("__classdict__" : Str)) = false)
    (hs : ∀ env : Env, swapsWith (.Name sf p3) (some (.Attribute (.Name "self" p1) fn p2)) p4.line env = pure false) :
    FnOk P w K mg base CX0 1 fI fd ["self", sf] (spXInit K C fn) := by
  refine F.ok S (fun vs H Q E h => ?_) (fun cdv A outer s H vs Q E hr h => ?_)
  · obtain ⟨a, v, ws, rfl, _⟩ := h
    rfl
  obtain ⟨a, v, ws, rfl, c, n, ea, q⟩ := h
  rw [hb]
  refine ⟨_, pss_one (ps_xfld (pe_var (i := 0) rfl (.inl h1) (by decide) (by decide)) (pe_var (i := 1) rfl (.inl h2) hd hc) (hs _)), ?_⟩
  exact ⟨_, rfl, _, rfl, a, C, ws, rfl, ea, c, n, fun d H3 k1 hd k2 k3 => q d H3 k1 hd k2 k3⟩
end
section
variable {X : Cx}
end
end L2

set_option Elab.async false
set_option linter.all false
set_option maxRecDepth 100000
set_option maxHeartbeats 4000000
namespace L2
open PySem PySem.Spec PyProof.Rows
section
variable {X : Cx}
end
theorem XD.base {K : PySem.W.Frag} {C : Addr} {up : List Value} (h : XD K C up) (hb : up.contains (.type "BaseException") = true) : PySem.W.mroIn K C (.type "BaseException") = some true := by
  rw [h.mro, List.contains_cons, hb, Bool.or_true]
structure Told (K : PySem.W.Frag) (H : Hp) (a C : Addr) (f : Str) (v : V) : Prop where
  ex : ∃ d ws, H a = some (XcO a C (some d) ws) ∧ H d = some (.xd [(f, v)])
theorem raise_told {K : PySem.W.Frag} {H H1 : Hp} {C : Addr} {f : Str} {v : V} {E : XK} (s0 : Same H H1) (hE : ∀ a H', Same H H' → Told K H' a C f v → E (.ref C) (some a) H') :
    ∀ a d ws H2, Same H1 H2 → H1 a = none → ws[1]? = some Value.none → H2 a = some (XcO a C (some d) ws) → H2 d = some (.xd [(f, v)]) →
      ∃ a' dx vs, V.ref a = .ref a' ∧ H2 a' = some (XcO a' C dx vs) ∧ vs[1]? = some Value.none ∧ (∀ y, dx = some y → ∃ fs, H2 y = some (.xd fs)) ∧ ∀ vs', E (.ref C) (some a') (upd H2 a' (XcO a' C dx vs')) := by
  intro a d ws H2 s1 n1 u1 e1 f1
  refine ⟨a, some d, ws, rfl, e1, u1, fun y q => by cases q; exact ⟨_, f1⟩, fun vs' => hE a _ (fun b o q => ?_) ⟨d, vs', upd_same, ?_⟩⟩
  · have na : b ≠ a := ne_of_none (s0 b o q) n1
    rw [upd_ne na]
    exact s1 b o (s0 b o q)
  · rw [upd_ne (ne_of f1 e1 (by intro z; cases z))]
    exact f1
/-! ### a claim -/
structure Cl where
  n : Int
  wt : Int
  wb : Int
  st : Int
  sb : Int
  came : Int
structure Cl.Ok (c : Cl) : Prop where
  n0 : 0 ≤ c.n
  w0 : 0 ≤ c.wt
  w1 : c.wt ≤ 1000000
  w2 : 1 ≤ c.wb
  w3 : c.wb ≤ 12
  s0 : 0 ≤ c.st
  s1 : c.st ≤ 1000000
  s2 : 1 ≤ c.sb
  s3 : c.sb ≤ 12
  c0 : 0 ≤ c.came
  c1 : c.came ≤ 1000000000000000
structure IsCl (K : PySem.W.Frag) (H : Hp) (p : Addr) (c : Cl) : Prop where
  ex : ∃ pw ps, H p = some (.tup [.int c.n, .ref pw, .ref ps, .int c.came]) ∧ H pw = some (.tup [.int c.wt, .int c.wb]) ∧ H ps = some (.tup [.int c.st, .int c.sb])
end L2

set_option Elab.async false
set_option linter.all false
set_option maxRecDepth 100000
set_option maxHeartbeats 4000000
namespace L2
open PySem PySem.Spec PyProof.Rows
/-! ## what is changed: the heap behind is a letter -/
def But (p : Addr) (H H' : Hp) : Prop := ∀ b o, b ≠ p → H b = some o → H' b = some o
theorem But.trans {p : Addr} {H H1 H2 : Hp} (a : But p H H1) (b : But p H1 H2) : But p H H2 := fun c o hc h => b c o hc (a c o hc h)
theorem Same.toBut {p : Addr} {H H' : Hp} (s : Same H H') : But p H H' := fun c o _ h => s c o h
theorem Same.but {p : Addr} {H0 H H' : Hp} (s : Same H0 H) (n : H0 p = none) (b : But p H H') : Same H0 H' := fun c o h => b c o (ne_of_none h n) (s c o h)
theorem But.upd (p : Addr) (H : Hp) (o : HO) : But p H (L2.upd H p o) := fun c u hc h => by rw [upd_ne hc]; exact h
section
variable {X : Cx}
def rAppendS : V → List V → Hp → VK → Prop := fun x vs H Q => ∃ l xs y, x = .ref l ∧ vs = [y] ∧ H l = some (.lst xs) ∧ xs.length < sizeLine ∧ ∀ H2, But l H H2 → H2 l = some (.lst (xs ++ [y])) → Q .non H2
theorem mt_appendS : MtR X "list.append" rAppendS := by
  intro pins s σ H x vs v us Q I rx rv h
  obtain ⟨l, xs, y, e1, e2, hp, hz, q⟩ := h
  exact mt_append pins s σ H x vs v us Q I rx rv ⟨l, xs, y, e1, e2, hp, hz, q _ (But.upd l H _) upd_same⟩
theorem call_lstS : CallR X (.type "list") (fun xs H Q => ∃ p ys, xs = [.ref p] ∧ (SqL X.K H p ys ∨ SqT X.K H p ys) ∧ ∀ l H2, Same H H2 → H l = none → H2 l = some (.lst ys) → Q (.ref l) H2) := by
  intro pins s σ H xs us Q I r h
  obtain ⟨p, ys, e, h, q⟩ := h
  exact call_list_of pins s σ H xs us Q I r ⟨p, ys, e, h, fun l n => q l _ (same_new n _) n upd_same⟩
def rSlLS (K : PySem.W.Frag) : V → Option Int → Option Int → Hp → VK → Prop := fun x lo hi H Q => ∃ a xs, x = .ref a ∧ SqL K H a xs ∧ ∀ p H2, Same H H2 → H p = none → H2 p = some (.lst (cutV xs lo hi)) → Q (.ref p) H2
theorem sl_listS : SlR X (rSlLS X.K) := by
  intro pins s σ H v u vl vu lo hi sl Q I rx hs pl pu h
  obtain ⟨a, xs, e, hx, q⟩ := h
  exact sl_list pins s σ H v u vl vu lo hi sl Q I rx hs pl pu ⟨a, xs, e, hx, fun p n => q p _ (same_new n _) n upd_same⟩
end
structure IsW (H : Hp) (p : Addr) (t b : Int) : Prop where
  at_ : H p = some (.tup [.int t, .int b])
  t0 : 0 ≤ t
  t1 : t ≤ 1000000
  b0 : 1 ≤ b
  b1 : b ≤ 12
theorem passesE0 {X : Cx} : Passes (CX1 X.prog X.w) X E0 := by
  intro pins σ H s e s' I h
  obtain ⟨a, T, C, dx, vs, H2, rfl, os, gb, un, hok, hz, F, hE⟩ := h
  exact (hE #[]).elim
end L2

set_option Elab.async false
set_option linter.all false
namespace L2
open PySem
/-! ## two claims: who is ahead, who passes whom -/
def wtop (c : Cl) (t : Int) : Int := c.wt * c.sb + (t - c.came) * c.st * c.wb
def wbot (c : Cl) : Int := c.wb * c.sb
def gap (c d : Cl) (t : Int) : Int := wtop c t * wbot d - wtop d t * wbot c
def tie (c d : Cl) : Bool := decide (c.came < d.came ∨ (c.came = d.came ∧ c.n < d.n))
def ahd (c d : Cl) (t : Int) : Bool := if gap c d t = 0 then tie c d else decide (0 < gap c d t)
inductive Pass (b l : Cl) (t : Int) : V → Prop where
  | no (h : ∀ u, t ≤ u → ahd b l u = false) : Pass b l t .non
  | at_ (u : Int) (h1 : t < u) (h2 : ahd b l u = true) (h3 : ∀ v, t ≤ v → v < u → ahd b l v = false) : Pass b l t (.int u)
structure PassOf (c d : Cl) (t : Int) (v : V) : Prop where
  one : ahd c d t = true → Pass d c t v
  two : ahd c d t = false → Pass c d t v
structure IsLc (H : Hp) (l : Addr) (n : Int) (c : Int) : Prop where
  ex : ∃ w s t b u d, H l = some (.lst [.int n, .ref w, .ref s, .int c]) ∧ IsW H w t b ∧ IsW H s u d
  c0 : 0 ≤ c
  c1 : c ≤ 1000000000000000
/-! ### products crosswise, in lowest terms or not -/
end L2

set_option Elab.async false
set_option linter.all false
set_option maxRecDepth 100000
set_option maxHeartbeats 4000000
namespace L2
open PySem PySem.Spec PyProof.Rows
/-! ## lists that are changed -/
section
variable {X : Cx}
end
end L2

set_option Elab.async false
set_option linter.all false
set_option maxRecDepth 100000
set_option maxHeartbeats 4000000
namespace L2
open PySem PySem.Spec PyProof.Rows
/-! ## enumerate -/
end L2

set_option Elab.async false
set_option linter.all false
set_option maxRecDepth 100000
set_option maxHeartbeats 4000000
namespace L2
open PySem PySem.Spec PyProof.Rows
section
variable {X : Cx}
end
end L2

set_option Elab.async false
set_option linter.all false
set_option maxRecDepth 100000
set_option maxHeartbeats 4000000
namespace L2
open PySem PySem.Spec PyProof.Rows
/-! ## == of things within things, that are alike -/
def refV : V → Bool
  | .ref _ => true
  | _ => false
def Deq (K : PySem.W.Frag) (H : Hp) : Nat → V → V → Prop
  | 0, x, y => x = y ∧ (flatV x = true ∨ refV x = true)
  | n + 1, x, y => (x = y ∧ (flatV x = true ∨ refV x = true)) ∨ ∃ a b xs ys, x = .ref a ∧ y = .ref b ∧ ((SqT K H a xs ∧ SqT K H b ys) ∨ (SqL K H a xs ∧ SqL K H b ys)) ∧ xs.length = ys.length ∧ ∀ (j : Nat) u v, xs[j]? = some u → ys[j]? = some v → Deq K H n u v
theorem Deq.flat {K : PySem.W.Frag} {H : Hp} {x : V} (n : Nat) (h : flatV x = true) : Deq K H n x x := by
  cases n with
  | zero => exact ⟨rfl, .inl h⟩
  | succ n => exact .inl ⟨rfl, .inl h⟩
theorem Deq.int {K : PySem.W.Frag} {H : Hp} (n : Nat) (i : Int) : Deq K H n (.int i) (.int i) := Deq.flat n rfl
theorem Deq.tup {K : PySem.W.Frag} {H : Hp} {n : Nat} {a b : Addr} {xs ys : List V} (ha : SqT K H a xs) (hb : SqT K H b ys) (hl : xs.length = ys.length) (h : ∀ (j : Nat) u v, xs[j]? = some u → ys[j]? = some v → Deq K H n u v) : Deq K H (n + 1) (.ref a) (.ref b) :=
  .inr ⟨a, b, xs, ys, rfl, rfl, .inl ⟨ha, hb⟩, hl, h⟩
theorem eqV_self {x : V} (h : flatV x = true) : eqV x x = true := by
  cases x <;> first | (cases h; done) | simp [eqV]
theorem base_at {A : Around} {s : Shared} {x : V} {u v : Value} (rx : RelV x u) (ry : RelV x v) (h : flatV x = true ∨ refV x = true) : SeqAt.EqAt A s u v true := by
  rcases h with h | h
  · have := eqAt_V (A := A) (s := s) rx ry h h
    rw [eqV_self h] at this
    exact this
  · cases x with
    | ref a =>
      cases (show u = Value.ref a from rx)
      cases (show v = Value.ref a from ry)
      exact SeqAt.EqAt.same _
    | _ => cases h
theorem all_true (n : Nat) : (List.range n).all (fun _ => true) = true := by
  rw [List.all_eq_true]
  intro _ _
  rfl
section
variable {X : Cx} {pins : List (Addr × Obj)} {σ : St} {H : Hp} {s : Shared}
theorem row_at {A : Around} {xs ys : List V} {its its2 : List Value} (r : Vals xs its) (r2 : Vals ys its2) (h : ∀ (j : Nat) x y u v, xs[j]? = some x → ys[j]? = some y → RelV x u → RelV y v → SeqAt.EqAt A s u v true)
    (j : Nat) (h1 : j < its.toArray.size) (h2 : j < its2.toArray.size) : SeqAt.EqAt A s its.toArray[j] its2.toArray[j] true := by
  have l1 : j < xs.length := by rw [r.length]; simpa using h1
  have l2 : j < ys.length := by rw [r2.length]; simpa using h2
  obtain ⟨u, eu, ru⟩ := r.get (List.getElem?_eq_getElem l1)
  obtain ⟨v, ev, rv⟩ := r2.get (List.getElem?_eq_getElem l2)
  have e1 : its.toArray[j] = u := by
    have := (List.getElem?_eq_some_iff.mp eu).2
    simpa using this
  have e2 : its2.toArray[j] = v := by
    have := (List.getElem?_eq_some_iff.mp ev).2
    simpa using this
  rw [e1, e2]
  exact h j _ _ u v (List.getElem?_eq_getElem l1) (List.getElem?_eq_getElem l2) ru rv
theorem Deq.at (I : Inv X pins σ H s) : ∀ (n : Nat) {A : Around} {x y : V} {u v : Value}, Deq X.K H n x y → RelV x u → RelV y v → A.units + n < cLine → SeqAt.EqAt A s u v true := by
  intro n
  induction n with
  | zero =>
    intro A x y u v h rx ry hu
    obtain ⟨rfl, h⟩ := h
    exact base_at rx ry h
  | succ n ih =>
    intro A x y u v h rx ry hu
    rcases h with ⟨rfl, h⟩ | ⟨a, b, xs, ys, rfl, rfl, hs, hl, h⟩
    · exact base_at rx ry h
    cases (show u = Value.ref a from rx)
    cases (show v = Value.ref b from ry)
    by_cases ab : a = b
    · subst ab
      exact SeqAt.EqAt.same _
    refine SeqAt.EqAt.of_refs ab ?_
    have hu1 : A.in1.units + n < cLine := by rw [Around.in1_units]; omega
    rcases hs with ⟨ha, hb⟩ | ⟨ha, hb⟩
    · obtain ⟨its, r, pl, hz⟩ := I.tuple ha
      obtain ⟨its2, r2, pl2, hz2⟩ := I.tuple hb
      have e1 : its.toArray.size = xs.length := by simp [r.length]
      have e2 : its2.toArray.size = ys.length := by simp [r2.length]
      have z := SeqAt.RcAt.tuples (s := s) (e := fun _ => true) pl pl2 (show A.units < cLine by omega) (row_at r r2 fun j x y u v hx hy ru rv => ih (h j x y hx hy) ru rv hu1)
      rw [all_true, e1, e2, hl, Bool.true_and, beq_self_eq_true] at z
      exact z
    · obtain ⟨its, r, pl, hz⟩ := I.list ha
      obtain ⟨its2, r2, pl2, hz2⟩ := I.list hb
      have e1 : its.toArray.size = xs.length := by simp [r.length]
      have e2 : its2.toArray.size = ys.length := by simp [r2.length]
      have z := SeqAt.RcAt.lists (s := s) (e := fun _ => true) pl.isList pl2.isList (by omega) (show A.units < cLine by omega) (row_at r r2 fun j x y u v hx hy ru rv => ih (h j x y hx hy) ru rv hu1)
      rw [all_true] at z
      exact z
end
section
variable {X : Cx}
def rRows (K : PySem.W.Frag) (n : Nat) (x y : V) (H : Hp) : Prop := ∃ a b xs ys, x = .ref a ∧ y = .ref b ∧ ((SqT K H a xs ∧ SqT K H b ys) ∨ (SqL K H a xs ∧ SqL K H b ys)) ∧ xs.length = ys.length ∧ ∀ (j : Nat) u v, xs[j]? = some u → ys[j]? = some v → Deq K H n u v
theorem op_neD (n : Nat) (hu : X.A.units + (n + 1) < cLine) : OpR X (compareOp .NotEq) (fun x y H Q => rRows X.K n x y H ∧ Q (.bl false) H) := by
  intro pins s σ H x y v u Q I rx ry h
  obtain ⟨⟨a, b, xs, ys, rfl, rfl, hs, hl, h⟩, q⟩ := h
  cases rx
  cases ry
  have hu1 : X.A.in1.units + n < cLine := by rw [Around.in1_units]; omega
  rcases hs with ⟨ha, hb⟩ | ⟨ha, hb⟩
  · obtain ⟨its, r, pl, hz⟩ := I.tuple ha
    obtain ⟨its2, r2, pl2, hz2⟩ := I.tuple hb
    have e1 : its.toArray.size = xs.length := by simp [r.length]
    have e2 : its2.toArray.size = ys.length := by simp [r2.length]
    refine SeqAt.RcNeAt.tuples (s := s) (e := fun _ => true) pl pl2 (show X.A.units < cLine by omega) (row_at r r2 fun j x y u v hx hy ru rv => Deq.at I n (h j x y hx hy) ru rv hu1) X.prog X.w X.xe _ ⟨.bl _, H, I, rfl, ?_⟩
    rw [all_true, e1, e2, hl, Bool.true_and, beq_self_eq_true]
    exact q
  · obtain ⟨its, r, pl, hz⟩ := I.list ha
    obtain ⟨its2, r2, pl2, hz2⟩ := I.list hb
    have e1 : its.toArray.size = xs.length := by simp [r.length]
    have e2 : its2.toArray.size = ys.length := by simp [r2.length]
    refine SeqAt.RcNeAt.lists (s := s) (e := fun _ => true) pl.isList pl2.isList (by omega) (show X.A.units < cLine by omega) (row_at r r2 fun j x y u v hx hy ru rv => Deq.at I n (h j x y hx hy) ru rv hu1) X.prog X.w X.xe _ ⟨.bl _, H, I, rfl, ?_⟩
    rw [all_true]
    exact q
end
theorem Room.units9 {k : Nat} {A : Around} (r : Room k A) : A.units + (9 + 1) < cLine := by have := r.un; omega
end L2

set_option Elab.async false
set_option linter.all false
namespace L2
open PySem
/-! ## the order of claims at a turn -/
def ins (t : Int) (c : Cl) : List Cl → List Cl
  | [] => [c]
  | d :: ds => if ahd d c t = true then d :: ins t c ds else c :: d :: ds
def ord (cs : List Cl) (t : Int) : List Cl := cs.foldl (fun acc c => ins t c acc) []
structure Good (cs : List Cl) : Prop where
  ok : ∀ c, c ∈ cs → c.Ok
  nd : (cs.map (·.n)).Nodup
end L2

set_option Elab.async false
set_option linter.all false
set_option maxRecDepth 100000
set_option maxHeartbeats 4000000
namespace L2
open PySem PySem.Spec PyProof.Rows
theorem comp_list {K : PySem.W.Frag} {a : Addr} {xs : List V} {js : List Nat} {tc : TT} {te : TE} {σ : St} {H1 : Hp} {Q : VK} (p : Nat → Bool) (f : Nat → V) (hl : SqL K H1 a xs)
    (ht : ∀ i x Hh (Q' : Bool → Hp → Prop), xs[i]? = some x → Same H1 Hh → (∀ Hh', Same Hh Hh' → Q' (p i) Hh') → tc (some x :: caps σ js) Hh Q')
    (he : ∀ i x Hh (Q' : VK), xs[i]? = some x → p i = true → Same H1 Hh → (∀ Hh', Same Hh Hh' → Q' (f i) Hh') → te (some x :: caps σ js) Hh Q')
    (hz : xs.length < sizeLine) (q : ∀ D H2, Same H1 H2 → H1 D = none → H2 D = some (.lst (((List.range xs.length).filter p).map f)) → Q (.ref D) H2) :
    CompGo (Itl K a) js tc te σ H1 Q := by
  intro D H2 s2 hD h2
  refine ⟨fun i m acc H3 => m = xs.length - i ∧ i ≤ xs.length ∧ acc = ((List.range i).filter p).map f ∧ Same H1 H3 ∧ H3 D = some (.lst acc), ⟨_, rfl, Nat.zero_le _, by simp, s2, h2⟩, ?_⟩
  rintro i m acc H3 ⟨rfl, hi, ea, s3, h3⟩
  have hl3 : SqL K H3 a xs := s3.seq hl
  have hll : acc.length ≤ xs.length := by
    rw [ea, List.length_map]
    refine Nat.le_trans (List.length_filter_le _ _) ?_
    rw [List.length_range]
    exact hi
  refine ⟨h3, by omega, ?_⟩
  by_cases hlt : i < xs.length
  · have hx : xs[i]? = some xs[i] := List.getElem?_eq_getElem hlt
    refine .inr ⟨⟨xs, _, hl3, hx⟩, fun y H4 z => ?_⟩
    obtain ⟨e, ey⟩ := z
    have ey2 := ey xs hl3
    subst e
    refine ht i y _ _ ey2 s3 fun H5 s5 => ?_
    have h5 := s5 _ _ h3
    have s35 := s3.trans s5
    have tk : (List.range (i + 1)).filter p = (List.range i).filter p ++ (if p i = true then [i] else []) := by
      rw [List.range_succ, List.filter_append]
      congr 1
      cases h : p i <;> simp [h]
    cases hp : p i with
    | true =>
      refine iteT (he i y _ _ ey2 hp s35 fun H6 s6 => ⟨s6 _ _ h5, fun H7 k7 h7 => ⟨xs.length - (i + 1), by omega, rfl, hlt, ?_, fun b o e => ?_, h7⟩⟩)
      · rw [tk, hp, if_pos rfl, List.map_append, ← ea]
        rfl
      · by_cases hb : b = D
        · subst hb
          rw [hD] at e
          cases e
        · exact k7 b o hb (s6 b o (s35 b o e))
    | false =>
      refine iteF ⟨xs.length - (i + 1), by omega, rfl, hlt, ?_, s35, h5⟩
      rw [tk, hp, if_neg Bool.false_ne_true, List.append_nil]
      exact ea
  · have e : i = xs.length := by omega
    subst e
    refine .inl ⟨⟨xs, hl3, Nat.le_refl _⟩, ?_⟩
    rw [ea] at h3
    exact q D _ s3 hD h3
/-! ### claims in a list -/
structure IsCs (K : PySem.W.Frag) (H : Hp) (l : Addr) (ps : List (Addr × Cl)) : Prop where
  at_ : H l = some (.lst (ps.map fun q => V.ref q.1))
  cl : ∀ q, q ∈ ps → IsCl K H q.1 q.2
/-! ### the laws' draws -/
structure St3 (H : Hp) (a : Addr) : Prop where
  ex : ∃ p q r : Int, H a = some (.lst [.int p, .int q, .int r])
section
variable {X : Cx} {tg : Expr}
end
end L2

set_option Elab.async false
set_option linter.all false
set_option maxRecDepth 100000
set_option maxHeartbeats 4000000
namespace L2
open PySem PySem.Spec PyProof.Rows
theorem ps_setC {X : Cx} {iter elt : Expr} {x y : Str} {i : Nat} {px py spos : Pos} {ifs : List Expr} {scope : Scope} {pos : Pos} {wi : TI} {N : List Str} {js : List Nat} {tc : TT} {te : TE}
    (hN : X.N.Nodup) (hiN : X.N[i]? = some y) (hyl : X.env.scope.names.lookup y = some .local)
    (hc : X.calm = true) (S : CompScope X scope x N js) (hi : PI X (.Name x px) iter wi)
    (ht : ∀ cl C s₀ H₀ ex, CTests (cxComp X N scope cl C s₀ H₀ ex) ifs tc) (he : ∀ cl C s₀ H₀ ex, PE (cxComp X N scope cl C s₀ H₀ ex) elt te)
    (hsw : swapsWith (.ListComp elt [⟨.Name x px, iter, ifs, 0⟩] scope pos) (some (.Name y py)) spos.line X.env = pure true := by rfl)
    (hs : ∀ x, foldedSetIterable iter X.env x = pure x := by intro _; rfl) :
    PS X (.Assign [.Name y py] (.ListComp elt [⟨.Name x px, iter, ifs, 0⟩] scope pos) spos) (tAsg (tComp wi js tc te) (gName i)) := by
  with_unfolding_all
    intro pins s σ H DD I h
    have hcells : ∀ y ∈ scope.names, y.2 = .free → ∃ c, X.env.cells.lookup y.1 = some c := fun y hy hf => I.ok.has y.1 (.inl (S.free y hy hf))
    obtain ⟨cl, ecl, cl1, cl2⟩ := closure_of hcells
    rw [exec_Assign_Name_used _ _ _ _ hsw]
    refine wpAny_bind (wpAny_standAt (wpAny_bind ?_))
    show wpAny _ X.A (do let _ ← comprehension (.ListComp elt [⟨.Name x px, iter, ifs, 0⟩] scope pos) scope X.env _ (newList []) false (eval iter X.env) (some (assign (.Name y py) X.env))) _ _ s
    refine wpAny_bind (wpAny_mono (wpAny_comprehension_free (use := some (assign (.Name y py) X.env)) (Q := fun _ s' => SP X pins DD .next s') rfl hs ecl S.kind S.loc (thn (hi pins s σ H _ I h) fun v s1 h1 => thn h1 fun itv s2 h2 => ?_)) (fun _ s' hq => wpAny_pure (wpAny_pure hq)) fun _ _ e => e)
    obtain ⟨it, fp, tn, J, H2, e, I2, T, st2, f2, q2⟩ := h2
    subst e
    refine wpAny_newObj_type (wpAny_newFunctionEnv S.nocell (by intro y hy; simp at hy) (fun h₁ hns₁ hsb₁ => ?_) S.kind)
    dsimp only at hns₁ hsb₁ ⊢
    generalize hP2 : s2.heap.push { cls := .type "list", dict := none, data := .seq ([] : List Value).toArray } = P2 at hns₁ hsb₁ ⊢
    have hC : P2.objs.size = s2.heap.objs.size + 1 := by rw [← hP2, Heap.size_push]
    have below : ∀ b, b < s2.heap.objs.size → b ≠ P2.objs.size ∧ b ≠ s2.heap.objs.size := fun b hb => ⟨by rw [hC]; exact Nat.ne_of_lt (Nat.lt_succ_of_lt hb), Nat.ne_of_lt hb⟩
    have hDC : s2.heap.objs.size ≠ P2.objs.size := by rw [hC]; exact Nat.ne_of_lt (Nat.lt_succ_self _)
    have old : ∀ b o, s2.heap.get? b = some o → h₁.get? b = some o := fun b o e => hsb₁.extBut b o (below b (Heap.lt_size e)).1 (Heap.get?_push_of_some _ (hP2 ▸ Heap.get?_push_of_some _ e))
    have hD : h₁.get? s2.heap.objs.size = some { cls := .type "list", dict := none, data := .seq ([] : List Value).toArray } := hsb₁.extBut _ _ hDC (Heap.get?_push_of_some _ (hP2 ▸ Heap.get?_push_size _ rfl))
    have hDn : H2 s2.heap.objs.size = none := I2.hok.fresh (Nat.le_refl _)
    have hCn : H2 P2.objs.size = none := I2.hok.fresh (by rw [hC]; exact Nat.le_succ _)
    obtain ⟨W, ⟨m0, w0⟩, turn⟩ := q2 s2.heap.objs.size _ (same_new hDn (.lst [])) hDn upd_same
    -- the block's context
    have fpl : ∀ b ∈ fp, b < s2.heap.objs.size := fun b hb => by
      obtain ⟨o, e, _⟩ := T.obj 0 _ st2 b hb
      exact Heap.lt_size e
    have yok : (cxComp X N scope cl P2.objs.size s2 H2 fp).Ok :=
      { mod := I2.ok.mod
        kind := S.kind
        glob := I2.ok.glob
        blt := I2.ok.blt
        above := by show s2.heap.objs.size ≤ P2.objs.size; rw [hC]; exact Nat.le_succ _
        inj := fun y z c h1 h2 => I2.ok.inj y z c (cl1 y c h1) (cl1 z c h2)
        has := fun y hy => by
          have hy' : (y, NameKind.free) ∈ scope.names := by
            rcases hy with hy | hy
            · exact relabel_cell (env := X.env) hy (.inl rfl) S.nocell
            · exact relabel_cell (env := X.env) hy (.inr rfl) S.nocell
          exact cl2 y hy'
        cab := fun y c hf _ => by cases hf
        hd := fun hc' => I2.ok.hd hc'
        frames := I2.ok.frames
        stk := .inl rfl
        exf := fun b hb => ⟨(below b (fpl b hb)).1, fun y c e => (f2 b hb).2.2.2.2.1 y c (cl1 y c e)⟩
        bs := I2.bs
        bsz := Nat.le_trans I2.ok.bsz I2.sz
        noex := fun b o e hb => by
          rcases (f2 b hb).2.2.2.1 with z | z
          · exact I2.ok.noex b o e z
          · exact absurd (Nat.lt_of_lt_of_le (Nat.lt_of_lt_of_le (Heap.lt_size e) I2.ok.bsz) z) (Nat.lt_irrefl _)
        exfs := fun b hb hf => by
          rcases List.mem_cons.mp (I2.stkSub b hf) with z | z
          · exact (f2 b hb).2.1 z
          · exact (f2 b hb).2.2.1 z
        funs := I2.stack
        frf := I2.stkFree }
    have hokD : HOk X.prog X.w (upd H2 s2.heap.objs.size (.lst [])) h₁ := I2.hok.laid old (Nat.le_refl _) ⟨Nat.zero_le _, [], 0, .nil, hD⟩
    have I3 : Inv (cxComp X N scope cl P2.objs.size s2 H2 fp) [] (none :: caps σ js) (upd H2 s2.heap.objs.size (.lst [])) { s2 with heap := h₁, toks := s2.toks + ([] : List (Str × Value)).length } :=
      { ok := yok
        os := rfl
        bare := I2.bare
        base := Un.laid old (Nat.le_refl _) hDn
        loc := by
          refine ⟨_, hns₁, fun i y v e1 e2 e3 => ?_⟩
          cases i with
          | zero => simp at e2
          | succ k =>
            have e2' : (caps σ js)[k]? = some (some v) := by simpa using e2
            unfold caps at e2'
            rw [List.getElem?_map] at e2'
            cases ej : js[k]? with
            | none => rw [ej] at e2'; cases e2'
            | some j =>
              rw [ej] at e2'
              have e4 : (σ[j]?).join = some v := Option.some.inj e2'
              have e5 : σ[j]? = some (some v) := by
                cases eσ : σ[j]? with
                | none => rw [eσ] at e4; cases e4
                | some o => rw [eσ] at e4; exact congrArg some e4
              obtain ⟨n1, n2, n3, n4⟩ := S.cap k j y e1 ej
              obtain ⟨mX, _, lX⟩ := I2.loc
              obtain ⟨u, ru, lk⟩ := lX j y v n1 e5 n2
              refine ⟨u, ru, ?_⟩
              rcases lk with ⟨lk, _⟩ | ⟨_, c, ec, cell⟩
              · rw [n3] at lk; cases lk
              · obtain ⟨c', ec'⟩ := cl2 y n4
                have : c' = c := Option.some.inj ((cl1 y c' ec').symm.trans ec)
                subst this
                obtain ⟨o, ho, hd⟩ := cell
                refine .inr ⟨?_, c', ec', ⟨o, old _ _ ho, hd⟩⟩
                -- the name is a cell or free in the block
                have e3' : (relabel scope X.env).names.lookup y = some .local ∨ (relabel scope X.env).names.lookup y = some .cell ∨ (relabel scope X.env).names.lookup y = some .free := e3
                rcases e3' with z | z | z
                · exfalso
                  have hm := PySem.mem_of_lookup z
                  obtain ⟨⟨n, k'⟩, hn, e⟩ := List.mem_map.mp hm
                  dsimp only at e
                  by_cases cc : (k' == NameKind.free && X.env.scope.kind == .function && X.env.kindOf n == some .cell) = true
                  · rw [if_pos cc] at e
                    cases e
                  · rw [if_neg cc] at e
                    cases e
                    have l1 := S.loc _ hn rfl
                    have l2 := lookup_relabel_local (env := X.env) l1
                    have f1 := S.free _ n4 rfl
                    exact S.apart y l1 n4
                · exact .inl z
                · exact .inr z
        cell := fun y c e => by
          obtain ⟨v, o, ho, hd⟩ := I2.cell y c (cl1 y c e)
          exact ⟨v, o, old _ _ ho, hd⟩
        free := by show upd H2 s2.heap.objs.size (.lst []) P2.objs.size = none; rw [upd_ne (Ne.symm hDC)]; exact hCn
        freeC := fun y c e => by
          obtain ⟨v, o, ho, hd⟩ := I2.cell y c (cl1 y c e)
          rw [upd_ne (below c (Heap.lt_size ho)).2]
          exact I2.freeC y c (cl1 y c e)
        pin := fun p hp => by simp at hp
        hok := hokD
        len := by show (none :: caps σ js).length = N.length; rw [S.len]; simp [caps] }
    have st3 : tn 0 h₁ := T.keep 0 _ _ st2 fun b _ o e => old b o e
    have fr3 : ∀ b ∈ fp, (upd H2 s2.heap.objs.size (.lst [])) b = none := fun b hb => by
      rw [upd_ne (below b (fpl b hb)).2]
      exact (f2 b hb).1
    -- what stays true of the iterator's objects
    have stat : ∀ {H' : Hp}, (∀ b ∈ fp, H' b = none) → ∀ b ∈ fp, FpOk (cxComp X N scope cl P2.objs.size s2 H2 fp) [] H' b := fun hn b hb =>
      ⟨hn b hb, (below b (fpl b hb)).1, yok.exfs b hb, .inl hb, fun y c e => (f2 b hb).2.2.2.2.1 y c (cl1 y c e), fun p hp => by simp at hp⟩
    have pgn : PG (cxComp X N scope cl P2.objs.size s2 H2 fp) (.Name x px) (gName 0) := pg_name S.nd S.head (.inl (lookup_relabel_local S.own)) (.inr (lookup_relabel_local S.own))
    have loop : ∀ s₃ : Shared, s₃ = { s2 with heap := h₁, toks := s2.toks + ([] : List (Str × Value)).length } →
        codeAny (model X.prog X.w) X.A (.compLoop (.ListComp elt [⟨.Name x px, iter, ifs, 0⟩] scope pos) 0 (.ref it) (.ref s2.heap.objs.size) (compEnvC scope cl P2.objs.size X.env))
          (compPost (model X.prog X.w) X.A X.xe (some (assign (.Name y py) X.env)) (fun _ s' => SP X pins DD .next s') (.ref s2.heap.objs.size) P2.objs.size) s₃ := by
      rintro s₃ rfl
      refine codeAny_loop rfl (fun n s' => ∃ i o acc H', Inv (cxComp X N scope cl P2.objs.size s2 H2 fp) [] (o :: caps σ js) H' s' ∧ tn i s'.heap ∧ (∀ b ∈ fp, H' b = none) ∧ W i n acc H') ?_ m0 ⟨0, none, [], _, I3, st3, fr3, w0⟩
      rintro n s4 ⟨i, o, acc, H4, I4, st4, fr4, w4⟩
      show wpAny _ X.A ((compTurn (.ListComp elt [⟨.Name x px, iter, ifs, 0⟩] scope pos) 0 (.ref it) (.ref s2.heap.objs.size) (compEnvC scope cl P2.objs.size X.env)).onRaise (fun x => do noteFrame x (compEnvC scope cl P2.objs.size X.env); theTreesLotGoes x)) _ _ s4
      refine wpAny_noted ?_
      rw [compTurn_list]
      refine wpAny_bind (wpAny_standAt (wpAny_bind ?_))
      obtain ⟨hD4, hz4, alt⟩ := turn i n acc H4 w4
      rcases alt with ⟨stop, qn⟩ | ⟨go, step⟩
      · refine thn (T.done (cxComp X N scope cl P2.objs.size s2 H2 fp) rfl rfl rfl hc i [] s4 _ H4 _ I4 (stat fr4) st4 stop) fun r s5 ⟨hr, I5⟩ => ?_
        subst hr
        refine wpAny_pure ?_
        obtain ⟨m5, n5, _⟩ := I5.loc
        have u5 := I5.base
        have nC : ∀ b o, s2.heap.get? b = some o → b ≠ P2.objs.size := fun b o e => (below b (Heap.lt_size e)).1
        have IX : Inv X pins σ H4 s5 := by
          refine I2.call' (s' := s5) (ch := fp) I5.os ?_ I5.hok I5.bare fun b hb => ⟨(f2 b hb).2.2.2.1, (f2 b hb).2.1, (f2 b hb).2.2.2.2.1, (f2 b hb).2.2.2.2.2⟩
          exact ⟨u5.keep, u5.slot, u5.free, u5.there, u5.tups, u5.frzs, u5.tbls⟩
        obtain ⟨g0, g1, g2, g3, g4, g5⟩ := I2.fpOk (b := P2.objs.size) (H' := H4) (by rw [hC]; exact Nat.le_succ _) I5.free
        refine wpAny_assign_Name (store_ok2 IX hN hiN (.inl hyl) (v := .ref s2.heap.objs.size) rfl (fun s6 I6 ⟨aa, sb6, ha⟩ => ?_) (.inr hyl))
        have hCa : P2.objs.size ≠ aa := by
          rcases ha with rfl | ha
          · exact g1
          · exact fun z => g4 _ _ ha z.symm
        refine ⟨m5, n5.sameBut sb6 hCa, fun h' sb => ⟨_, H4, ?_, qn⟩⟩
        exact I6.turned (t' := s6.toks) (fun b o hb e => sb.extBut b o hb e) g0 g1 g3 g4 g5
      · refine thn (T.item (cxComp X N scope cl P2.objs.size s2 H2 fp) rfl rfl rfl hc i [] s4 _ H4 _ I4 (stat fr4) st4 go) fun r s5 ⟨u, hr, h5⟩ => ?_
        subst hr
        refine wpAny_bind (thn h5 fun _ s6 ⟨y, H6, I6, r6, y6, st6, fr6⟩ => ?_)
        have I6' := I6.pinned (stat fr6) (T.obj _ _ st6)
        refine wpAny_bind (wpAny_mono (pgn _ s6 (o :: caps σ js) H6 y u (fun σ' H' => σ' = some y :: caps σ js ∧ H' = H6) I6' r6 ⟨rfl, rfl⟩) (fun _ s7 ⟨σ7, H7, I7, e7, e8⟩ => ?_) fun _ _ z => z.elim)
        subst e7 e8
        have back : ∀ {s9 : Shared} {H9 : Hp} {acc9 : List V} {m9 : Nat}, Inv (cxComp X N scope cl P2.objs.size s2 H2 fp) ([] ++ pinsAt fp s6.heap) (some y :: caps σ js) H9 s9 → m9 < n → W (i + 1) m9 acc9 H9 →
            ∃ m, m < n ∧ ∃ i o acc H', Inv (cxComp X N scope cl P2.objs.size s2 H2 fp) [] (o :: caps σ js) H' s9 ∧ tn i s9.heap ∧ (∀ b ∈ fp, H' b = none) ∧ W i m acc H' := fun {s9 H9 acc9 m9} I9 hm w9 => by
          refine ⟨m9, hm, i + 1, some y, acc9, H9, I9.unpinned, T.keep _ _ _ st6 fun b hb o e => (I9.pin (b, o) (List.mem_append_right _ (List.mem_append_right _ (mem_pinsAt hb e)))).1, fun b hb => ?_, w9⟩
          obtain ⟨o, e, d⟩ := T.obj _ _ st6 b hb
          exact (I9.pin (b, o) (List.mem_append_right _ (List.mem_append_right _ (mem_pinsAt hb e)))).2.1
        refine wpAny_bind (wpAny_mono (ht cl _ s2 H2 fp _ s7 _ _ _ I7 (step y _ y6)) (fun ok s8 ⟨H8, I8, q8⟩ => ?_) fun _ _ z => z.elim)
        cases ok with
        | false =>
          obtain ⟨m9, hm, w9⟩ := q8
          exact wpAny_pure ⟨rfl, back I8 hm w9⟩
        | true =>
          refine wpAny_bind (wpAny_bind (wpAny_mono (he cl _ s2 H2 fp _ s8 _ _ _ I8 q8) (fun xv s9 ⟨v9, H9, I9, r9, hD9, q9⟩ => ?_) fun _ _ z => z.elim))
          refine wpAny_bind (wpAny_mono (mt_append (X := cxComp X N scope cl P2.objs.size s2 H2 fp) _ s9 _ H9 (.ref s2.heap.objs.size) [v9] (.ref s2.heap.objs.size) [xv] (fun _ H' => H' = upd H9 s2.heap.objs.size (.lst (acc ++ [v9]))) I9 rfl (.cons r9 .nil) ⟨_, acc, v9, rfl, rfl, hD9, hz4, rfl⟩) (fun _ s10 ⟨v10, H10, I10, _, e10⟩ => ?_) fun _ _ z => z.elim)
          subst e10
          obtain ⟨m9, hm, w9⟩ := q9 _ (fun b o hb e => by rw [upd_ne hb]; exact e) upd_same
          exact wpAny_pure (wpAny_pure ⟨rfl, back I10 hm w9⟩)
    exact codeAny_compStart_list (loop _ rfl) (T.self _ 0 _ _ _ st3 (loop _ rfl))
end L2

set_option Elab.async false
set_option linter.all false
set_option maxRecDepth 100000
namespace L2
open PySem PySem.Spec PyProof.Rows
section
variable {X : Cx}
end
end L2

set_option Elab.async false
set_option linter.all false
namespace L2
open PySem.W PyProof.Rows
/-! ## the sort of few items, by what it asks: a strict order of unlike items -/
structure Tot (n : Nat) (lt : Nat → Nat → Bool) : Prop where
  asym : ∀ i j, i < n → j < n → lt i j = true → lt j i = false
  tot : ∀ i j, i < n → j < n → i ≠ j → lt i j = false → lt j i = true
  trans : ∀ i j k, i < n → j < n → k < n → lt i j = true → lt j k = true → lt i k = true
structure Pm (n : Nat) (p : Array Nat) : Prop where
  pm : p.toList.Perm (List.range n)
section
variable {n : Nat} {lt : Nat → Nat → Bool} (T : Tot n lt)
include T
omit T in
omit T in
omit T in
end
end L2

set_option Elab.async false
set_option linter.all false
set_option maxRecDepth 100000
set_option maxHeartbeats 4000000
namespace L2
open PySem PySem.Spec PyProof.Rows
/-! ## a lambda that is made in a def's body: its table, its object, its call -/
structure Site (K : PySem.W.Frag) (mg : Str → Option Value) (base : Heap) (cv : Value) (T : Addr) : Prop where
  ex : ∃ c, cv = .ref c ∧ PySem.W.CodeHd base c T
  bm : base.BuiltinsAt mg T
structure Lam (X : Cx) (H : Hp) (q : Str) (ar : Arguments) (body : Expr) (scope : Scope) (f : Addr) (cl : List (Str × Addr)) : Prop where
  ex : ∃ pm c ct oc us t o, H f = some (.frz o (.own f)) ∧ o.data = .func (PySem.W.kla_fn "<lambda>" q ar body scope cl pm (.ref c) ct) ∧ H c = some (.frz oc (.own c)) ∧ oc.data = .fields us ∧ us[1]? = some (.str q t)
  c1 : ∀ x c, cl.lookup x = some c → X.env.cells.lookup x = some c
  c2 : ∀ x, (x, NameKind.free) ∈ scope.names → ∃ c, cl.lookup x = some c
  c3 : ∀ x c, cl.lookup x = some c → (x, NameKind.free) ∈ scope.names
section
variable {X : Cx} {pins : List (Addr × Obj)} {σ : St} {H : Hp} {s : Shared}
end
end L2

set_option Elab.async false
set_option linter.all false
set_option maxRecDepth 100000
set_option maxHeartbeats 4000000
namespace L2
open PySem PySem.Spec PyProof.Rows PySem.W
/-! ## sorted, by tuples of ints that are all unlike -/
section
variable {prog : Program} {w : World} {A : Around} {E : Value → Shared → Prop} {s : Shared} {Q : Bool → Shared → Prop}
end
section
variable {X : Cx} {pins : List (Addr × Obj)} {σ : St} {H : Hp} {s : Shared}
end
end L2

set_option Elab.async false
set_option linter.all false
set_option maxRecDepth 100000
set_option maxHeartbeats 4000000
namespace L2
open PySem PySem.Spec PyProof.Rows PySem.W
/-! ## sorted(xs, key=lambda x: ..), the lambda's keys tuples of ints -/
structure FunC (K : Frag) (x qual : Str) (st : Stmt) (f : Addr) (fd : FuncData) (cv : Value) : Prop where
  ex : ∃ (oc : Value) (od : Option Addr) (kV doc pm : Value) (an : Option Addr) (ct : Value) (osl : Array (Option Value)),
    fd = fnOf x qual (defArgs st) (defBody st) (defScope st) .none kV doc pm an cv ct ∧ K.lookup f = some ⟨oc, od, .func fd, osl⟩ ∧ codeIn K cv qual = true
structure DfnC (K : Frag) (mg : Str → Option Value) (x : Str) (st : Stmt) (ps : List Str) (f : Addr) (fd : FuncData) (cv : Value) : Prop where
  F : FunC K x x st f fd cv
  kp : keepIn K (.ref f) = true
  b : Binds K fd ps []
  m : mg x = some (.ref f)
/-! ## the head: the law's call, one table tracked from the beginning -/
end L2

set_option Elab.async false
set_option linter.all false
set_option maxRecDepth 100000
set_option maxHeartbeats 4000000
namespace L2
open PySem PySem.Spec PyProof.Rows
/-! ## the least common bottom, the keys of places -/
section
variable {X : Cx}
end
end L2

set_option Elab.async false
set_option linter.all false
set_option maxRecDepth 100000
set_option maxHeartbeats 4000000
namespace L2
open PySem PySem.Spec PyProof.Rows PySem.W
/-! ## sorted(xs), xs tuples of ints that are all unlike -/
section
variable {X : Cx}
end
end L2

set_option Elab.async false
set_option linter.all false
set_option maxRecDepth 100000
set_option maxHeartbeats 4000000
namespace L2
open PySem PySem.Spec PyProof.Rows
/-! ## rows of passings -/
abbrev Row := Int × Int × Int
def Row.key (r : Row) : List Int := [r.1, r.2.1, r.2.2]
def rlt (r q : Row) : Bool := HT.lexLt (Row.key r) (Row.key q)
noncomputable def mt (b l : Cl) (t : Int) : Option Int := open Classical in if h : ∃ u, Pass b l t (.int u) then some h.choose else none
structure RowsOf (cs : List Cl) (t : Int) (rows : List Row) : Prop where
  srt : rows.Pairwise fun r q => rlt r q = true
  mem : ∀ r : Row, r ∈ rows ↔ ∃ b f, b ∈ cs ∧ f ∈ cs ∧ ahd f b t = true ∧ mt b f t = some r.1 ∧ r.2.1 = b.n ∧ r.2.2 = f.n
structure IsRows (H : Hp) (l : Addr) (rs : List (Addr × Row)) : Prop where
  at_ : H l = some (.lst (rs.map fun r => V.ref r.1))
  rw : ∀ r, r ∈ rs → H r.1 = some (.tup ((Row.key r.2).map V.int))
end L2

set_option Elab.async false
set_option linter.all false
set_option maxRecDepth 100000
set_option maxHeartbeats 4000000
namespace L2
open PySem PySem.Spec PyProof.Rows
section
variable {X : Cx} {K : PySem.W.Frag}
theorem pe_xfldK {e : Expr} {f : Str} {pos : Pos} {ta : TE} (he : PE X e ta) (hb : attributeBase e f X.env (eval e X.env) = eval e X.env) (hK : X.K = K) : PE X (.Attribute e f pos) (tXFld K ta f) := hK ▸ pe_xfld he hb
end
section
variable {X : Cx}
end
def isStar : Expr → Bool
  | .Starred .. => true
  | _ => false
theorem star_plain {e : Expr} (h : isStar e = false) (rest : List Expr) (env : Env) : starEach (e :: rest) env = (false, eval e env) :: starEach rest env := by
  cases e <;> first | rfl | cases h
section
variable {X : Cx}
theorem pa_consP {e : Expr} {es : List Expr} {te : TE} {t : TA} (ha : PE X e te) (hr : PA X es t) (hs : isStar e = false := by rfl) : PA X (e :: es) (tCons te t) := pa_cons ha hr (star_plain hs es X.env)
end
end L2

set_option Elab.async false
set_option linter.all false
set_option maxRecDepth 100000
set_option maxHeartbeats 4000000
namespace L2
open PySem PySem.Spec PyProof.Rows
section
variable {X : Cx}
@[irreducible] def PAi (X : Cx) (es : List Expr) (t : TA) : Prop := PA X es t
theorem pai_nil : PAi X [] tNil := by
  unfold PAi
  exact pa_nil
theorem pai_cons {e : Expr} {es : List Expr} {te : TE} {t : TA} (ha : PE X e te) (hr : PAi X es t) (hs : isStar e = false := by rfl) : PAi X (e :: es) (tCons te t) := by
  unfold PAi at *
  exact pa_consP ha hr hs
theorem pai {es : List Expr} {t : TA} (h : PAi X es t) : PA X es t := by
  unfold PAi at h
  exact h
end
end L2

set_option Elab.async false
set_option linter.all false
set_option maxRecDepth 100000
set_option maxHeartbeats 4000000
namespace L2
open PySem PySem.Spec PyProof.Rows
/-! ## the changes, walked turn by turn -/
def Walk (cs : List Cl) (r : Row) : Prop := ∃ b f, b ∈ cs ∧ f ∈ cs ∧ b.n ≠ f.n ∧ ahd f b (r.1 - 1) = true ∧ ahd b f r.1 = true ∧ r.2.1 = b.n ∧ r.2.2 = f.n
structure Betw (cs : List Cl) (t u : Int) (rows : List Row) : Prop where
  srt : rows.Pairwise fun r q => rlt r q = true
  mem : ∀ r : Row, r ∈ rows ↔ (t < r.1 ∧ r.1 ≤ u) ∧ Walk cs r
end L2

set_option Elab.async false
set_option linter.all false
namespace L2
open PySem
/-! ## small numbers, case by case -/
/-! ## lists of a length -/
theorem ul1 {α : Type} {us : List α} (h : us.length = 1) : ∃ a1, us = [a1] := by
  match us, h with
  | [a1], _ => exact ⟨a1, rfl⟩
theorem ul2 {α : Type} {us : List α} (h : us.length = 2) : ∃ a1 a2, us = [a1, a2] := by
  match us, h with
  | [a1, a2], _ => exact ⟨a1, a2, rfl⟩
theorem ul3 {α : Type} {us : List α} (h : us.length = 3) : ∃ a1 a2 a3, us = [a1, a2, a3] := by
  match us, h with
  | [a1, a2, a3], _ => exact ⟨a1, a2, a3, rfl⟩
theorem ul4 {α : Type} {us : List α} (h : us.length = 4) : ∃ a1 a2 a3 a4, us = [a1, a2, a3, a4] := by
  match us, h with
  | [a1, a2, a3, a4], _ => exact ⟨a1, a2, a3, a4, rfl⟩
theorem ul6 {α : Type} {us : List α} (h : us.length = 6) : ∃ a1 a2 a3 a4 a5 a6, us = [a1, a2, a3, a4, a5, a6] := by
  match us, h with
  | [a1, a2, a3, a4, a5, a6], _ => exact ⟨a1, a2, a3, a4, a5, a6, rfl⟩
theorem ul7 {α : Type} {us : List α} (h : us.length = 7) : ∃ a1 a2 a3 a4 a5 a6 a7, us = [a1, a2, a3, a4, a5, a6, a7] := by
  match us, h with
  | [a1, a2, a3, a4, a5, a6, a7], _ => exact ⟨a1, a2, a3, a4, a5, a6, a7, rfl⟩
end L2

set_option Elab.async false
set_option linter.all false
set_option maxRecDepth 100000
set_option maxHeartbeats 4000000
namespace L2
open PySem PySem.Spec PyProof.Rows
/-! ## comers: when somebody may still come and be ahead -/
def Cl.at (d : Cl) (x : Int) : Cl := ⟨d.n, d.wt, d.wb, d.st, d.sb, x⟩
def ovr (c d : Cl) (t : Int) : Bool := decide (0 < gap d c t)
def abl (c d : Cl) (x u : Int) : Bool := ovr c (d.at x) x || ovr c (d.at x) u
inductive LastAt (c d : Cl) (b u : Int) : V → Prop
  | no : (∀ x, b ≤ x → x ≤ u → abl c d x u = false) → LastAt c d b u .non
  | at (r : Int) : b ≤ r → r ≤ u → abl c d r u = true → (∀ x, r < x → x ≤ u → abl c d x u = false) → LastAt c d b u (.int r)
/-! ## comprehensions over range whose parts make things -/
/-! ## a statement that raises nothing, in a def that may raise -/
def Cx.calmed (X : Cx) : Cx := ⟨X.prog, X.w, X.K, X.mg, X.base, X.A, X.N, X.s₀, X.H₀, X.env, X.outer, X.stack, X.ex, X.fn, X.calm, X.pn, fun _ _ => False⟩
theorem Inv.calmed {X : Cx} {pins : List (Addr × Obj)} {σ : St} {H : Hp} {s : Shared} (I : Inv X pins σ H s) : Inv X.calmed pins σ H s := by
  obtain ⟨ok, a1, a2, a3, a4, a5, a6, a7, a8, a9, a10⟩ := I
  refine ⟨?_, a1, a2, a3, a4, a5, a6, a7, a8, a9, a10⟩
  cases ok
  constructor <;> assumption
theorem Inv.uncalmed {X : Cx} {pins : List (Addr × Obj)} {σ : St} {H : Hp} {s : Shared} (I : Inv X.calmed pins σ H s) : Inv X pins σ H s := by
  obtain ⟨ok, a1, a2, a3, a4, a5, a6, a7, a8, a9, a10⟩ := I
  refine ⟨?_, a1, a2, a3, a4, a5, a6, a7, a8, a9, a10⟩
  cases ok
  constructor <;> assumption
theorem ps_calm {X : Cx} {st : Stmt} {t : TS} (h : PS X.calmed st t) : PS X st t := by
  with_unfolding_all
    intro pins s σ H D I q
    refine wpAny_mono (h pins s σ H D I.calmed q) (fun f s' r => ?_) fun _ _ z => z.elim
    cases f with
    | next => obtain ⟨σ', H', J, d⟩ := r; exact ⟨σ', H', J.uncalmed, d⟩
    | brk => obtain ⟨σ', H', J, d⟩ := r; exact ⟨σ', H', J.uncalmed, d⟩
    | cont => obtain ⟨σ', H', J, d⟩ := r; exact ⟨σ', H', J.uncalmed, d⟩
    | ret u => obtain ⟨v, σ', H', J, rv, d⟩ := r; exact ⟨v, σ', H', J.uncalmed, rv, d⟩
section
variable {X : Cx}
end
end L2

set_option Elab.async false
set_option linter.all false
set_option maxRecDepth 100000
set_option maxHeartbeats 4000000
namespace L2
open PySem PySem.Spec PyProof.Rows
/-! ### a list comprehension whose target is a tuple of names -/
structure CompScopeN (X : Cx) (scope : Scope) (nk : Nat) (N : List Str) (js : List Nat) : Prop where
  kind : scope.kind = .function
  nocell : ∀ y ∈ scope.names, y.2 ≠ .cell
  loc : ∀ y ∈ scope.names, y.2 = .local → scope.names.lookup y.1 = some .local
  own : ∀ (i : Nat) (x : Str), N[i]? = some x → i < nk → scope.names.lookup x = some .local
  free : ∀ y ∈ scope.names, y.2 = .free → X.env.kindOf y.1 = some .cell
  nd : N.Nodup
  len : N.length = js.length + nk
  apart : ∀ y, scope.names.lookup y = some .local → (y, NameKind.free) ∉ scope.names
  cap : ∀ (k j : Nat) (y : Str), N[k + nk]? = some y → js[k]? = some j → X.N[j]? = some y ∧ Vis X.env.scope y ∧ X.env.kindOf y = some .cell ∧ (y, NameKind.free) ∈ scope.names
end L2

set_option Elab.async false
set_option linter.all false
set_option maxRecDepth 100000
set_option maxHeartbeats 4000000
namespace L2
open PySem PySem.Spec PyProof.Rows
section
variable {X : Cx}
end
end L2

set_option Elab.async false
set_option linter.all false
set_option maxRecDepth 100000
set_option maxHeartbeats 4000000
namespace L2
open PySem PySem.Spec PyProof.Rows
/-! ## max of a list, with default= -/
section
variable {pg : Program} {wd : World} {Ar : Around} {Rs : Result → Shared → Prop} {It : Addr} {fp wr : List Addr} {n : Nat} {Pv : Nat → Value → Prop} {Sv : Nat → Heap → Prop}
end
section
variable {X : Cx}
end
end L2

set_option Elab.async false
set_option linter.all false
set_option maxRecDepth 100000
set_option maxHeartbeats 4000000
namespace L2
open PySem PySem.Spec PyProof.Rows
/-! ## pairs that are turned between two turns -/
structure IsPrs (H : Hp) (l : Addr) (rs : List (Addr × Row)) : Prop where
  at_ : H l = some (.lst (rs.map fun r => V.ref r.1))
  rw : ∀ r, r ∈ rs → H r.1 = some (.tup [.int r.2.2.1, .int r.2.2.2])
end L2

set_option Elab.async false
set_option linter.all false
set_option maxRecDepth 100000
set_option maxHeartbeats 4000000
namespace L2
open PySem PySem.Spec PyProof.Rows
/-! ## chores: a claim and what is left -/
structure IsCh (K : PySem.W.Frag) (H : Hp) (p : Addr) (x : Cl × Int) : Prop where
  ex : ∃ pc, H p = some (.tup [.ref pc, .int x.2]) ∧ IsCl K H pc x.1
structure IsChs (K : PySem.W.Frag) (H : Hp) (l : Addr) (xs : List (Addr × Cl × Int)) : Prop where
  at_ : H l = some (.lst (xs.map fun q => V.ref q.1))
  ch : ∀ q, q ∈ xs → IsCh K H q.1 q.2
theorem cut_ints (ns : List Int) (lo hi : Option Int) : ∃ ms : List Int, cutV (ns.map V.int) lo hi = ms.map V.int := by
  unfold cutV
  refine ⟨(ns.drop (HT.sIx (ns.map V.int).length 0 lo)).take (HT.sIx (ns.map V.int).length (ns.map V.int).length hi - HT.sIx (ns.map V.int).length 0 lo), ?_⟩
  rw [List.map_take, List.map_drop]
structure ChOk (B : Int) (x : Cl × Int) : Prop where
  ok : x.1.Ok
  l0 : 0 ≤ x.2
  l1 : x.2 ≤ 12
  cm : x.1.came ≤ B
end L2

set_option Elab.async false
set_option linter.all false
set_option maxRecDepth 100000
set_option maxHeartbeats 4000000
namespace L2
open PySem PySem.Spec PyProof.Rows
/-! ## turns of work -/
def rnk (cs : List Cl) (t : Int) (c : Cl) : Nat := (cs.filter fun o => decide (o.n ≠ c.n) && ahd o c t).length
structure RkD (cs : List Cl) (t : Int) (h i : Nat) (kvs : List (Key × V)) : Prop where
  len : kvs.length = ((cs.take i).filter fun c => decide (rnk cs t c < h)).length
  val : ∀ (k : Nat) c, k < i → cs[k]? = some c → rnk cs t c < h → valV kvs (.inl (rnk cs t c : Int)) = some (.int c.n)
  key : ∀ j : Key, valV kvs j ≠ none → ∃ (k : Nat) (c : Cl), k < i ∧ cs[k]? = some c ∧ j = .inl (rnk cs t c : Int)
/-! ### what is left behind a turn -/
def lessN (ws : List Int) (x : Cl × Int) : Int := if x.1.n ∈ ws then x.2 - 1 else x.2
structure IsBh (H : Hp) (l : Addr) (ys : List (Addr × Cl × Int)) (bs : List (Addr × List V)) : Prop where
  at_ : H l = some (.lst (bs.map fun b => V.ref b.1))
  rw : ∀ b, b ∈ bs → H b.1 = some (.tup b.2)
  eq : bs.map (·.2) = ys.map fun k => [V.ref k.1, V.int k.2.2]
end L2
namespace L2
open PySem PySem.Spec PyProof.Rows
end L2
namespace L2
open PySem PySem.Spec PyProof.Rows
end L2
namespace L2
open PySem PySem.Spec PyProof.Rows
end L2

set_option Elab.async false
set_option linter.all false
set_option maxRecDepth 100000
set_option maxHeartbeats 4000000
namespace L2
open PySem PySem.Spec PyProof.Rows
/-! ## a def whose last parameter has None as its default -/
structure FunD (K : PySem.W.Frag) (x qual : Str) (st : Stmt) (f : Addr) (fd : FuncData) : Prop where
  ex : ∃ (oc : Value) (od : Option Addr) (T : Addr) (kV doc pm : Value) (an : Option Addr) (cdv ct : Value) (osl : Array (Option Value)) (o : Obj) (n : Nat),
    fd = PySem.W.fnOf x qual (defArgs st) (defBody st) (defScope st) (.ref T) kV doc pm an cdv ct ∧ K.lookup f = some ⟨oc, od, .func fd, osl⟩ ∧ PySem.W.codeIn K cdv qual = true ∧ K.lookup T = some o ∧ o.data = .seq #[.none] n
  kp : PySem.W.keepIn K (.ref f) = true
structure DfnD (K : PySem.W.Frag) (mg : Str → Option Value) (x : Str) (st : Stmt) (ps : List Str) (f : Addr) (fd : FuncData) : Prop where
  F : FunD K x x st f fd
  b : Binds K fd ps []
  bd : Binds K fd ps [.none]
  m : mg x = some (.ref f)
structure CalD (P : Program) (w : World) (K : PySem.W.Frag) (mg : Str → Option Value) (base : Heap) (x : Str) (k : Nat) (ps : List Str) (sp : Sp) : Prop where
  ex : ∃ f fd, FnOk P w K mg base CX0 k f fd ps sp ∧ Binds K fd ps [] ∧ Binds K fd ps [.none] ∧ mg x = some (.ref f) ∧ PySem.W.keepIn K (.ref f) = true
section
variable {X : Cx} {k : Nat} {ps : List Str} {sp : Sp} {x : Str} {p pos : Pos} {e : Expr} {es : List Expr} {t : TA}
end
end L2

set_option Elab.async false
set_option linter.all false
set_option maxRecDepth 100000
set_option maxHeartbeats 4000000
namespace L2
open PySem PySem.Spec PyProof.Rows
/-! ## runs, by what the chores hold -/
abbrev Ch := List (Cl × Int)
def csC (t : Int) (c : Ch) : List Cl := (c.filter fun k => decide (0 < k.2) && decide (k.1.came ≤ t)).map (·.1)
def wkC (t : Int) (h : Nat) (c : Ch) : List Int := ((ord (csC t c) t).map (·.n)).take h
def bhC (ws : List Int) (c : Ch) : Ch := (c.map fun k => (k.1, lessN ws k)).filter fun k => decide (0 < k.2)
end L2
namespace L2
open PySem PySem.Spec PyProof.Rows
structure IsRun (H : Hp) (l : Addr) (rs : List (Addr × Addr × Int × List Int)) : Prop where
  at_ : H l = some (.lst (rs.map fun r => V.ref r.1))
  row : ∀ r, r ∈ rs → H r.1 = some (.tup [.int r.2.2.1, .ref r.2.1])
  num : ∀ r, r ∈ rs → H r.2.1 = some (.lst (r.2.2.2.map V.int))
end L2

set_option Elab.async false
set_option linter.all false
set_option maxRecDepth 100000
set_option maxHeartbeats 4000000
namespace L2
open PySem PySem.Spec PyProof.Rows
/-! ## walking the keys of a dict: it is frozen from then on (read, never written) -/
section
variable {X : Cx} {tg : Expr}
end
section
variable {X : Cx}
end
end L2

set_option Elab.async false
set_option linter.all false
set_option maxRecDepth 100000
set_option maxHeartbeats 4000000
namespace L2
open PySem PySem.Spec PyProof.Rows
/-! ## dicts from whole numbers to whole numbers; last turns -/
/-! the keys -/
end L2

set_option Elab.async false
set_option linter.all false
set_option maxRecDepth 100000
set_option maxHeartbeats 4000000
namespace L2
open PySem PySem.Spec PyProof.Rows
/-! ## dict(d), and == of dicts of whole numbers -/
section
variable {X : Cx} {pins : List (Addr × Obj)} {σ : St} {H : Hp} {s : Shared}
end
section
variable {X : Cx}
end
end L2

set_option Elab.async false
set_option linter.all false
set_option maxRecDepth 100000
set_option maxHeartbeats 4000000
namespace L2
open PySem PySem.Spec PyProof.Rows
/-! ## histories with less work and more hands: nobody is later -/
structure GdC (c : Ch) : Prop where
  ok : ∀ k, k ∈ c → k.1.Ok
  nd : (c.map (·.1.n)).Nodup
inductive Hist (h : Nat) (b : Int) (c0 : Ch) : Nat → List (Int × List Int) → Ch → Prop
  | zero : Hist h b c0 0 [] c0
  | succ {n : Nat} {rs : List (Int × List Int)} {c : Ch} {h' : Nat} : Hist h b c0 n rs c → h ≤ h' → Hist h b c0 (n + 1) (rs ++ [(b + n, wkC (b + n) h' c)]) (bhC (wkC (b + n) h' c) c)
/-! last turns -/
section
variable {X : Cx} {pins : List (Addr × Obj)} {σ : St} {H : Hp} {s : Shared}
end
end L2

set_option Elab.async false
set_option linter.all false
set_option maxRecDepth 100000
set_option maxHeartbeats 4000000
namespace L2
open PySem PySem.Spec PyProof.Rows
/-! ## repr, list(d), d.clear(), d.values(), and a dict that is thawed again -/
theorem paired_get {α β : Type} {F : α → β → Prop} : ∀ {l₁ : List α} {l₂ : List β}, Paired F l₁ l₂ → ∀ {j : Nat} {a : α} {b : β}, l₁[j]? = some a → l₂[j]? = some b → F a b
  | _, _, .nil, j, a, b, h, _ => by simp at h
  | _, _, .cons x r, 0, a, b, h1, h2 => by
    cases h1
    cases h2
    exact x
  | _, _, .cons x r, j + 1, a, b, h1, h2 => paired_get r (j := j) h1 h2
inductive Shw (K : PySem.W.Frag) (H : Hp) : V → Str → Prop
  | non : Shw K H .non "None"
  | bl (b : Bool) : Shw K H (.bl b) (if b then "True" else "False")
  | int (i : Int) (h : i.natAbs.log2 < 1920) : Shw K H (.int i) (toString i)
  | str (x : Str) (h : (reprText x).length ≤ sizeLine) : Shw K H (.str x) (reprText x)
  | lst {a : Addr} (i : Int) (h : SqL K H a [.int i]) (hs : (PyData.list [.int i]).showable = true) (hz : (PyData.list [.int i]).shown.length ≤ sizeLine) : Shw K H (.ref a) (PyData.list [.int i]).shown
  | tup {a : Addr} (i : Int) (h : SqT K H a [.int i]) (hs : (PyData.tuple [.int i]).showable = true) (hz : (PyData.tuple [.int i]).shown.length ≤ sizeLine) : Shw K H (.ref a) (PyData.tuple [.int i]).shown
section
variable {X : Cx}
end
section
variable {X : Cx} {tg : Expr}
end
/-! thawed -/
section
variable {X : Cx}
end
end L2

set_option Elab.async false
set_option linter.all false
set_option maxRecDepth 100000
set_option maxHeartbeats 4000000
namespace L2
open PySem PySem.Spec PyProof.Rows
/-! ## function values: a lambda that is handed on, with the cells that it reads -/
abbrev Cel := Addr × Obj × V
def cellE (p : Cel) : HO := .ext fun h => h.get? p.1 = some p.2.1
structure CellOk (p : Cel) : Prop where
  ex : ∃ u, p.2.1.data = .cell (some u) ∧ RelV p.2.2 u
/-! ### a function value -/
structure FnV (P : Program) (w : World) (K : PySem.W.Frag) (mg : Str → Option Value) (base : Heap) (k : Nat) (H : Hp) (f : Addr) (sp : Sp) : Prop where
  obj : ∃ o fd, H f = some (.frz o (.own f)) ∧ o.data = .func fd
  run : ∀ (A : Around) (outer : List Env) (s : Shared) (H1 : Hp) (us : List Value) (vs : List V) (Q : VK), Room k A → Env0 P w K mg base A outer s H1 → Same H H1 → Vals vs us → sp vs H1 Q E0 →
    codeAny (model P w) A (.call (.ref f) ⟨us, []⟩) (fun r s' => ∃ u, r = .ok (.ret u) ∧ CE outer P w H1 s Q u s') s
section
variable {X : Cx} {k i : Nat} {x : Str} {p pos : Pos} {e : Expr} {es : List Expr} {t : TA}
end
/-! ### a lambda's body, called from anywhere -/
structure LScope (scope : Scope) (x : Str) (N : List Str) : Prop where
  kind : scope.kind = .function
  nocell : ∀ y ∈ scope.names, y.2 ≠ .cell
  own : scope.names.lookup x = some .local
  head : N[0]? = some x
  apart : ∀ y, scope.names.lookup y = some .local → (y, NameKind.free) ∉ scope.names
structure CloV (H : Hp) (q : Str) (ar : Arguments) (body : Expr) (scope : Scope) (f : Addr) (cl : List (Str × Addr)) (N : List Str) (cs : List Cel) : Prop where
  ex : ∃ pm c ct oc us t o, H f = some (.frz o (.own f)) ∧ o.data = .func (PySem.W.kla_fn "<lambda>" q ar body scope cl pm (.ref c) ct) ∧ H c = some (.frz oc (.own c)) ∧ oc.data = .fields us ∧ us[1]? = some (.str q t)
  inj : ∀ y z c, cl.lookup y = some c → cl.lookup z = some c → y = z
  has : ∀ x, (x, NameKind.free) ∈ scope.names → ∃ c, cl.lookup x = some c
  cov : ∀ x c, cl.lookup x = some c → ∃ p, p ∈ cs ∧ p.1 = c
  len : N.length = cs.length + 1
  cap : ∀ (k : Nat) (p : Cel) (y : Str), N[k + 1]? = some y → cs[k]? = some p → cl.lookup y = some p.1 ∧ (y, NameKind.free) ∈ scope.names
  cel : ∀ p, p ∈ cs → H p.1 = some (cellE p) ∧ CellOk p
  nd : (cs.map (·.1)).Nodup
/-! ### a lambda made as an argument, the call with its cells tracked -/
theorem list_choice {α : Type} (R : Nat → α → Prop) : ∀ n, (∀ k, k < n → ∃ a, R k a) → ∃ l : List α, l.length = n ∧ ∀ k a, l[k]? = some a → R k a
  | 0, _ => ⟨[], rfl, fun k a h => by simp at h⟩
  | n + 1, h => by
    obtain ⟨l, e, r⟩ := list_choice R n fun k hk => h k (by omega)
    obtain ⟨a, ha⟩ := h n (by omega)
    refine ⟨l ++ [a], by rw [List.length_append, e]; rfl, fun k b hb => ?_⟩
    by_cases z : k < n
    · rw [List.getElem?_append_left (by omega)] at hb
      exact r k b hb
    · rw [List.getElem?_append_right (by omega), e] at hb
      cases y : k - n with
      | zero =>
        rw [y] at hb
        cases hb
        rw [show k = n by omega]
        exact ha
      | succ j => rw [y] at hb; cases hb
end L2

set_option Elab.async false
set_option linter.all false
set_option maxRecDepth 100000
set_option maxHeartbeats 4000000
namespace L2
open PySem PySem.Spec PyProof.Rows PySem.W
/-! ## the head: the law's call, some tables tracked from the beginning -/
end L2

set_option Elab.async false
set_option linter.all false
set_option maxRecDepth 100000
set_option maxHeartbeats 4000000
namespace PySem
open Sem (wp)
/-! ## dict(a list of pairs) -/
namespace F
end F
section
variable {prog : Program} {w : World} {K : Type} [DecidableEq K] {knd : KeyKind prog w K} {A : Around} {R : Result → Shared → Prop}
end
end PySem
namespace L2
open PySem PySem.Spec PyProof.Rows
/-! ### pairs of unlike numbers -/
/-! ### how much is left behind rows -/
/-! cells -/
end L2

set_option Elab.async false
set_option linter.all false
set_option maxRecDepth 100000
set_option maxHeartbeats 4000000
namespace PySem
open Sem (wp)
/-! ## enumerate(xs, start=n): the count and the place differ -/
section
variable {prog : Program} {w : World} {A : Around} {E : Value → Shared → Prop} {s : Shared}
end
end PySem

set_option Elab.async false
set_option linter.all false
set_option maxRecDepth 100000
set_option maxHeartbeats 4000000
namespace PySem
open Sem (wp)
open AutoSeq1 (wpAny_loadPart')
set_option maxHeartbeats 8000000 in
section
variable {prog : Program} {w : World} {A : Around} {E : Value → Shared → Prop} {s : Shared}
end
end PySem

set_option Elab.async false
set_option linter.all false
set_option maxRecDepth 100000
set_option maxHeartbeats 4000000
namespace L2
open PySem PySem.Spec PyProof.Rows
/-! ## enumerate(xs, start=n) -/
section
variable {M : Model} {A : Around} {E : Value → Shared → Prop} {s : Shared} {env : Env}
end
/-! ## zip(xs, ys) -/
structure Zap (z TI TO i1 i2 : Addr) : Prop where
  n1 : TI ≠ z
  n2 : TO ≠ z
  n3 : i1 ≠ z
  n4 : i2 ≠ z
  n5 : TI ≠ TO
  n6 : TI ≠ i1
  n7 : TI ≠ i2
  n8 : TO ≠ i1
  n9 : TO ≠ i2
  n0 : i1 ≠ i2
end L2

set_option Elab.async false
set_option linter.all false
set_option maxRecDepth 100000
set_option maxHeartbeats 4000000
namespace L2
open PySem PySem.Spec PyProof.Rows
/-! ## sum of a dict's values -/
end L2

set_option Elab.async false
set_option linter.all false
set_option maxRecDepth 100000
set_option maxHeartbeats 4000000
namespace L2
open PySem PySem.Spec PyProof.Rows
/-! ## no hand is idle: what holds of each row of a run -/
structure RowOk (ds : List Cl) (lf : Int → Int) (h : Nat) (t : Int) (ws : List Int) : Prop where
  len : ws.length ≤ h
  nd : ws.Nodup
  inn : ∀ w, w ∈ ws → ∃ d, d ∈ ds ∧ d.n = w ∧ 1 ≤ lf w ∧ d.came ≤ t
  srt : ∀ (i : Nat) d e, ws[i]? = some d.n → ws[i + 1]? = some e.n → d ∈ ds → e ∈ ds → ahd d e t = true
  rest : ∀ d, d ∈ ds → d.n ∉ ws → 0 < lf d.n → d.came ≤ t → ws.length = h ∧ ∀ e, e ∈ ds → ws.getLast? = some e.n → ahd e d t = true
end L2

set_option Elab.async false
set_option linter.all false
set_option maxRecDepth 100000
set_option maxHeartbeats 4000000
namespace PySem
open Sem (wp)
/-! ## list(reversed(xs)) -/
section
variable {prog : Program} {w : World} {A : Around} {E : Value → Shared → Prop} {s : Shared}
end
end PySem

set_option Elab.async false
set_option linter.all false
set_option maxRecDepth 100000
set_option maxHeartbeats 4000000
namespace PySem
open Sem (wp)
section
variable {prog : Program} {w : World} {A : Around} {E : Value → Shared → Prop} {s : Shared}
end
end PySem

set_option Elab.async false
set_option linter.all false
set_option maxRecDepth 100000
set_option maxHeartbeats 4000000
namespace L2
open PySem PySem.Spec PyProof.Rows
section
variable {X : Cx}
end
end L2
namespace L2
open PySem PySem.Spec PyProof.Rows
section
variable {X : Cx}
end
end L2

set_option Elab.async false
set_option linter.all false
set_option maxRecDepth 100000
set_option maxHeartbeats 4000000
namespace L2
open PySem PySem.Spec PyProof.Rows
section
variable {X : Cx}
def rSlTS (K : PySem.W.Frag) : V → Option Int → Option Int → Hp → VK → Prop := fun x lo hi H Q => ∃ a xs, x = .ref a ∧ SqT K H a xs ∧
  ¬ (HT.sIx xs.length 0 lo = 0 ∧ HT.sIx xs.length xs.length hi = xs.length) ∧ ∀ p H2, Same H H2 → H p = none → H2 p = some (.tup (cutV xs lo hi)) → Q (.ref p) H2
theorem sl_tupK {K : PySem.W.Frag} (hK : X.K = K) : SlR X (rSlTS K) := by
  subst hK
  intro pins s σ H v u vl vu lo hi sl Q I rx hs pl pu h
  obtain ⟨a, xs, e, hx, ne, q⟩ := h
  exact sl_tup pins s σ H v u vl vu lo hi sl Q I rx hs pl pu ⟨a, xs, e, hx, ne, fun p n => q p _ (same_new n _) n upd_same⟩
def rCatTS (K : PySem.W.Frag) : R2 := fun x y H Q => ∃ a b xs ys, x = .ref a ∧ y = .ref b ∧ SqT K H a xs ∧ SqT K H b ys ∧ xs ≠ [] ∧ ys ≠ [] ∧ xs.length + ys.length ≤ sizeLine ∧ ∀ p H2, Same H H2 → H p = none → H2 p = some (.tup (xs ++ ys)) → Q (.ref p) H2
theorem op_catTK {K : PySem.W.Frag} (hK : X.K = K) : OpR X (binaryOp .Add) (rCatTS K) := by
  subst hK
  intro pins s σ H x y v u Q I rx ry h
  obtain ⟨a, b, xs, ys, e1, e2, ha, hb, n1, n2, hz, q⟩ := h
  exact op_catT pins s σ H x y v u Q I rx ry ⟨a, b, xs, ys, e1, e2, ha, hb, n1, hz, fun z => absurd z n2, fun _ p hp => q p _ (same_new hp _) hp upd_same⟩
end
end L2
namespace L2
open PySem PySem.Spec PyProof.Rows
section
variable {X : Cx} {tg : Expr}
end
end L2

set_option Elab.async false
set_option linter.all false
set_option maxRecDepth 100000
set_option maxHeartbeats 4000000
namespace L2
open PySem PySem.Spec PyProof.Rows
/-! ## own classes -/
structure MOk (CX : CXT) (P : Program) (w : World) (K : PySem.W.Frag) (mg : Str → Option Value) (base : Heap) (k : Nat) (C : Addr) (m : Str) (sp : Sp) : Prop where
  cl : Cls K C
  ex : ∃ f fd ps, Meth K C m f ∧ FnOk P w K mg base CX k f fd ps sp ∧ Binds K fd ps []
def tMth (P : Program) (w : World) (K : PySem.W.Frag) (mg : Str → Option Value) (base : Heap) (CX : CXT) (k : Nat) (m : Str) (E : XK) (ta : TE) (t : TA) : TE := fun σ H Q => ta σ H fun x H1 =>
  ∃ a C dx fs sp, x = .ref a ∧ H1 a = some (.ins C dx fs) ∧ fs.lookup m = none ∧ MOk CX P w K mg base k C m sp ∧ t σ H1 fun vs H2 => sp (x :: vs) H2 Q E
section
variable {X : Cx} {CX : CXT} {k : Nat} {E : XK} {m : Str} {pos apos : Pos} {e o : Expr} {es : List Expr} {ta : TE} {t : TA}
theorem pe_mth {pl : Sem Bool} (he : PE X o ta) (hr : Room k X.A) (hx : Passes CX X E) (ha : PA X (e :: es) t)
    (hst : starEach (e :: es) X.env = (false, eval e X.env) :: starEach es X.env := by rfl) (hpl : (backTo pos (starEach es X.env)).any (·.1) = false := by rfl)
    (ht : eval (.Call (.Attribute o m apos) (e :: es) [] pos) X.env = (do
      let ov ← eval o X.env
      standAt apos.atName
      let (f, first) ← holding [ov] (getMethod ov m pl)
      callWith pos f first (backTo pos (starEach (e :: es) X.env)) (backToKw pos (keywordEach [] X.env))) := by rfl) :
    PE X (.Call (.Attribute o m apos) (e :: es) [] pos) (tMth X.prog X.w X.K X.mg X.base CX k m E ta t) := by
  with_unfolding_all
    intro pins s σ H Q I h
    refine PySem.W.methodCall_KW (pl := pl) (thn (he pins s σ H _ I h) fun u s1 ⟨x, H1, I1, rx, a, C, dx, fs, sp, ex, ea, l, M, q⟩ => ?_) ht
    subst ex
    obtain rfl : u = Value.ref a := rx
    obtain ⟨f, fd, ps, hm, F, hb⟩ := M.ex
    refine getmeth_ok I1 ea M.cl hm l ?_
    refine PySem.W.callWith_K (first := [.ref a]) (h₀ := X.base) I.ok.mod.kin hm.kp (thn (ha pos pins s1 σ H1 _ I1 q) fun us s2 ⟨vs, H2, I2, r, q2⟩ => ⟨I2.kIn, ?_⟩) hst hpl
    exact run_fn (us := .ref a :: us) (vs := .ref a :: vs) (dvs := []) F hr hb .nil hx I2 (.cons rfl r) (by rw [List.append_nil]; exact q2)
theorem pe_mth0 {pl : Sem Bool} (he : PE X o ta) (hr : Room k X.A) (hx : Passes CX X E)
    (ht : eval (.Call (.Attribute o m apos) [] [] pos) X.env = (do
      let ov ← eval o X.env
      standAt apos.atName
      let (f, first) ← holding [ov] (getMethod ov m pl)
      callWith pos f first (backTo pos (starEach [] X.env)) (backToKw pos (keywordEach [] X.env))) := by rfl) :
    PE X (.Call (.Attribute o m apos) [] [] pos) (tMth X.prog X.w X.K X.mg X.base CX k m E ta tNil) := by
  with_unfolding_all
    intro pins s σ H Q I h
    refine PySem.W.methodCall_KW (pl := pl) (thn (he pins s σ H _ I h) fun u s1 ⟨x, H1, I1, rx, a, C, dx, fs, sp, ex, ea, l, M, q⟩ => ?_) ht
    subst ex
    obtain rfl : u = Value.ref a := rx
    obtain ⟨f, fd, ps, hm, F, hb⟩ := M.ex
    refine getmeth_ok I1 ea M.cl hm l ?_
    exact PySem.W.callWith_K0 (first := [.ref a]) I1.kIn hm.kp (run_fn (us := [.ref a]) (vs := [.ref a]) (dvs := []) F hr hb .nil hx I1 (.cons rfl .nil) q)
end
/-! ## a def whose last parameter has a default -/
structure FunE (K : PySem.W.Frag) (x qual : Str) (st : Stmt) (f : Addr) (fd : FuncData) (u : Value) : Prop where
  ex : ∃ (oc : Value) (od : Option Addr) (T : Addr) (kV doc pm : Value) (an : Option Addr) (cdv ct : Value) (osl : Array (Option Value)) (o : Obj) (n : Nat),
    fd = PySem.W.fnOf x qual (defArgs st) (defBody st) (defScope st) (.ref T) kV doc pm an cdv ct ∧ K.lookup f = some ⟨oc, od, .func fd, osl⟩ ∧ PySem.W.codeIn K cdv qual = true ∧ K.lookup T = some o ∧ o.data = .seq #[u] n
  kp : PySem.W.keepIn K (.ref f) = true
theorem funE_mk {K : PySem.W.Frag} {x qual : Str} {st : Stmt} {f T : Addr} {oc : Value} {od an : Option Addr} {osl : Array (Option Value)} {kV doc pm cdv ct u : Value} {o : Obj} {n : Nat}
    (l : K.lookup f = some ⟨oc, od, .func (PySem.W.fnOf x qual (defArgs st) (defBody st) (defScope st) (.ref T) kV doc pm an cdv ct), osl⟩) (c : PySem.W.codeIn K cdv qual = true) (k : PySem.W.keepIn K (.ref f) = true)
    (t : K.lookup T = some o) (d : o.data = .seq #[u] n) : FunE K x qual st f (PySem.W.fnOf x qual (defArgs st) (defBody st) (defScope st) (.ref T) kV doc pm an cdv ct) u := ⟨⟨oc, od, T, kV, doc, pm, an, cdv, ct, osl, o, n, rfl, l, c, t, d⟩, k⟩
theorem FunE.ok {P : Program} {w : World} {K : PySem.W.Frag} {mg : Str → Option Value} {base : Heap} {x qual : Str} {st : Stmt} {f : Addr} {fd : FuncData} {u : Value} {N ps : List Str} {k : Nat} {sp : Sp} (F : FunE K x qual st f fd u) (S : FnScope N ps (defScope st)) (len : ∀ vs H Q E, sp vs H Q E → vs.length = ps.length)
    (hbody : ∀ (cdv : Value) (A : Around) (outer : List Env) (s : Shared) (H : Hp) (vs : List V) (Q : VK) (E : XK), Room k (A.deeper (envOfC qual (defScope st) s.heap.objs.size f cdv)) → sp vs H Q E →
      ∃ t, PSs (cxOf CX0 P w K mg base N qual (defScope st) f cdv A outer s H E).nox (defBody st) t ∧ t { nx := fun _ H' => Q .non H', rt := Q } (start N vs) H) : FnOk P w K mg base CX0 (k + 1) f fd ps sp := by
  obtain ⟨oc, od, T, kV, doc, pm, an, cdv, ct, osl, o, n, rfl, lk, hcd, _, _⟩ := F.ex
  refine fn_of lk hcd S len fun A outer s H vs Q E hr hsp => ?_
  obtain ⟨t, h, q⟩ := hbody cdv A outer s H vs Q E hr hsp
  exact ⟨t, h.nox, q⟩
theorem FunE.binds {K : PySem.W.Frag} {x qual : Str} {st : Stmt} {f : Addr} {fd : FuncData} {u : Value} {ps : List Str} (F : FunE K x qual st f fd u)
    (h : ∀ (dV kV doc pm : Value) (an : Option Addr) (cdv ct : Value) (us : List Value), us.length = ps.length → ∃ k : Option (Array Value) → Sem (List (Str × Value)), bindArgs (PySem.W.fnOf x qual (defArgs st) (defBody st) (defScope st) dV kV doc pm an cdv ct) ⟨us, []⟩ = (seqItems? dV >>= k) ∧ k (some #[u]) = pure (ps.zip us)) : Binds K fd ps [] := by
  obtain ⟨oc, od, T, kV, doc, pm, an, cdv, ct, osl, o, n, rfl, lk, hcd, t, d⟩ := F.ex
  intro s us KX hl
  obtain ⟨k, k1, k2⟩ := h (.ref T) kV doc pm an cdv ct us (by simpa using hl)
  exact BindsTo.of_defaults (T := T) (o := o) (items := #[u]) (n := n) (k := k) rfl (KX T o t) d k1 (by rw [k2, List.append_nil])
theorem FunE.bindsD {K : PySem.W.Frag} {x qual : Str} {st : Stmt} {f : Addr} {fd : FuncData} {u : Value} {ps : List Str} (F : FunE K x qual st f fd u)
    (h : ∀ (dV kV doc pm : Value) (an : Option Addr) (cdv ct : Value) (us : List Value), (us ++ [u]).length = ps.length → ∃ k : Option (Array Value) → Sem (List (Str × Value)), bindArgs (PySem.W.fnOf x qual (defArgs st) (defBody st) (defScope st) dV kV doc pm an cdv ct) ⟨us, []⟩ = (seqItems? dV >>= k) ∧ k (some #[u]) = pure (ps.zip (us ++ [u]))) : Binds K fd ps [u] := by
  obtain ⟨oc, od, T, kV, doc, pm, an, cdv, ct, osl, o, n, rfl, lk, hcd, t, d⟩ := F.ex
  intro s us KX hl
  obtain ⟨k, k1, k2⟩ := h (.ref T) kV doc pm an cdv ct us hl
  exact BindsTo.of_defaults (T := T) (o := o) (items := #[u]) (n := n) (k := k) rfl (KX T o t) d k1 k2
def spInit (K : PySem.W.Frag) (names : List Str) : Sp := fun vs H Q _ => ∃ (x C dx : Addr) (args : List V), vs = .ref x :: args ∧ H x = some (.ins C dx []) ∧ Cls K C ∧ (∀ f, f ∈ names → NoAttr K C f) ∧ args.length = names.length ∧
  ∀ H', But x H H' → H' x = some (.ins C dx (names.zip args)) → Q .non H'
structure Mak (P : Program) (w : World) (K : PySem.W.Frag) (mg : Str → Option Value) (base : Heap) (x : Str) (C : Addr) (k : Nat) (names : List Str) (dv : V) : Prop where
  cl : Cls K C
  no : ∀ f, f ∈ names → NoAttr K C f
  ex : ∃ f fd ps u, Mk K C f ∧ FnOk P w K mg base CX0 k f fd ps (spInit K names) ∧ Binds K fd ps [] ∧ (RelV dv u → Binds K fd ps [u]) ∧ RelV dv u ∧ mg x = some (.ref C)
def tMak (C : Addr) (names : List Str) (dvs : List V) (t : TA) : TE := fun σ H Q => t σ H fun vs H1 => (vs ++ dvs).length = names.length ∧ ∀ a dx H2, Same H1 H2 → H1 a = none → H2 a = some (.ins C dx (names.zip (vs ++ dvs))) → Q (.ref a) H2
section
variable {X : Cx} {k : Nat} {x : Str} {C : Addr} {names : List Str} {dv : V} {p pos : Pos} {e : Expr} {es : List Expr} {t : TA}
theorem make_init {H : Hp} {vs : List V} {Q : VK} (cl : Cls X.K C) (no : ∀ f, f ∈ names → NoAttr X.K C f) (l : vs.length = names.length) (q : ∀ a dx H2, Same H H2 → H a = none → H2 a = some (.ins C dx (names.zip vs)) → Q (.ref a) H2) :
    ∀ y dx, H y = none → H dx = none → dx ≠ y → spInit X.K names (.ref y :: vs) (upd (upd H dx (.own y)) y (.ins C dx [])) (fun v H2 => v = .non ∧ Q (.ref y) H2) E0 := fun y dx ny nd ne =>
  ⟨y, C, dx, vs, rfl, upd_same, cl, no, l, fun H' k h => ⟨rfl, q y dx H' (fun b o e => by
    have b1 : b ≠ y := fun z => by rw [z, ny] at e; cases e
    have b2 : b ≠ dx := fun z => by rw [z, nd] at e; cases e
    refine k b o b1 ?_
    rw [upd_ne b1, upd_ne b2]
    exact e) ny h⟩⟩
theorem pe_mak (M : Mak X.prog X.w X.K X.mg X.base x C k names dv) (hr : Room (k + 1) X.A) (hg : Gl X x) (ha : PA X (e :: es) t) (hdb : (x == ("__debug__" : Str)) = false := by decide)
    (he : starEach (e :: es) X.env = (false, eval e X.env) :: starEach es X.env := by rfl) (hpl : (backTo pos (starEach es X.env)).any (·.1) = false := by rfl) : PE X (.Call (.Name x p) (e :: es) [] pos) (tMak C names [] t) := by
  obtain ⟨f, fd, ps, u, mk, F, b, _, _, m⟩ := M.ex
  with_unfolding_all
    intro pins s σ H Q I h
    refine wpAny_Call_Name_kw (ld_glob I hg m ?_ hdb)
    refine PySem.W.callWith_K (h₀ := X.base) I.ok.mod.kin mk.kp (thn (ha pos pins s σ H _ I h) fun us s1 ⟨vs, H1, I1, r, l, q⟩ => ⟨I1.kIn, ?_⟩) he hpl
    exact run_make mk F hr b .nil pass0 I1 r (make_init M.cl M.no l q)
end
structure Own (K : PySem.W.Frag) (C : Addr) : Prop where
  cl : Cls K C
  ha : PySem.W.findIn K (.ref C) "__class__" = some (some (.builtin "object.__class__"))
  hn : PySem.W.specialIn K (.builtin "object.__class__") "__get__" = some (some (.builtin "getset_descriptor.__get__"))
  htk : PySem.W.takesIn K (.builtin "object.__class__") = some true
  hm : PySem.W.mroIn K C (.type "object") = some true
structure Mfn (K : PySem.W.Frag) (x qual : Str) (st : Stmt) (ps : List Str) (f : Addr) (fd : FuncData) : Prop where
  F : Fun K x qual st f fd
  b : Binds K fd ps []
structure MfnE (K : PySem.W.Frag) (x qual : Str) (st : Stmt) (ps : List Str) (f : Addr) (fd : FuncData) (u : Value) : Prop where
  F : FunE K x qual st f fd u
  b : Binds K fd ps []
  bd : Binds K fd ps [u]
theorem MfnE.mak {P : Program} {w : World} {K : PySem.W.Frag} {mg : Str → Option Value} {base : Heap} {x qual cn : Str} {st : Stmt} {ps names : List Str} {f C : Addr} {fd : FuncData} {u : Value} {k : Nat} {dv : V}
    (D : MfnE K x qual st ps f fd u) (G : FnOk P w K mg base CX0 k f fd ps (spInit K names)) (cl : Cls K C) (no : ∀ f, f ∈ names → NoAttr K C f) (mk : Mk K C f) (m : mg cn = some (.ref C)) (r : RelV dv u) : Mak P w K mg base cn C k names dv :=
  ⟨cl, no, f, fd, ps, u, mk, G, D.b, fun _ => D.bd, r, m⟩
def sFldS (K : PySem.W.Frag) (ta tv : TE) (f : Str) : TS := fun D σ H => tv σ H fun y H1 => ta σ H1 fun x H2 => ∃ a C dx fs, x = .ref a ∧ H2 a = some (.ins C dx fs) ∧ Cls K C ∧ NoAttr K C f ∧ fs.length < 1000 ∧
  ∀ H3, But a H2 H3 → H3 a = some (.ins C dx (putF f y fs)) → D.nx σ H3
section
variable {X : Cx} {o value : Expr} {f : Str} {pos pos' : Pos} {ta tv : TE}
theorem ps_fldS (ha : PE X o ta) (hv : PE X value tv) (hs : swapsWith value (some (.Attribute o f pos')) pos.line X.env = pure false := by rfl) : PS X (.Assign [.Attribute o f pos'] value pos) (sFldS X.K ta tv f) := by
  with_unfolding_all
    intro pins s σ H D I h
    refine plainObj_wpAny_Assign_Attribute (thn (hv pins s σ H _ I h) fun u s1 ⟨y, H1, I1, ry, q⟩ => thn (ha pins s1 σ H1 _ I1 q) fun ov s2 ⟨x, H2, I2, rx, a, C, dx, fs, ex, ea, c, n, l, q2⟩ => ?_) hs
    subst ex
    obtain rfl : ov = Value.ref a := rx
    exact setattr_ok I2 ea c n l ry fun s3 I3 => ⟨σ, _, I3, q2 _ (But.upd a H2 _) upd_same⟩
end
section
variable {X : Cx} {k : Nat} {ps : List Str} {sp : Sp} {x : Str} {p pos : Pos}
end
theorem comp_rangeV {lo : Int} {n : Nat} {js : List Nat} {tc : TT} {te : TE} {σ : St} {H1 : Hp} {Q : VK} (R : V → Prop)
    (ht : ∀ i Hh (Q' : Bool → Hp → Prop), i < n → Q' true Hh → tc (some (.int (lo + i)) :: caps σ js) Hh Q')
    (he : ∀ i Hh (Q' : VK), i < n → Same H1 Hh → (∀ v Hh', Same Hh Hh' → R v → Q' v Hh') → te (some (.int (lo + i)) :: caps σ js) Hh Q')
    (hz : n < sizeLine) (q : ∀ D H2 vs, Same H1 H2 → H1 D = none → H2 D = some (.lst vs) → vs.length = n → (∀ v, v ∈ vs → R v) → Q (.ref D) H2) :
    CompGo (Itr lo n) js tc te σ H1 Q := by
  intro D H2 s2 hD h2
  refine ⟨fun i m acc H3 => m = n - i ∧ i ≤ n ∧ acc.length = i ∧ (∀ v, v ∈ acc → R v) ∧ Same H1 H3 ∧ H3 D = some (.lst acc), ⟨_, rfl, Nat.zero_le _, rfl, fun v hv => (List.not_mem_nil hv).elim, s2, h2⟩, ?_⟩
  rintro i m acc H3 ⟨rfl, hi, ea, hR, s3, h3⟩
  refine ⟨h3, by omega, ?_⟩
  by_cases hlt : i < n
  · refine .inr ⟨hlt, fun y H4 z => ?_⟩
    obtain ⟨e, ey⟩ := z
    subst e ey
    refine ht i _ _ hlt (iteT ?_)
    refine he i _ _ hlt s3 fun v H6 s6 hv => ⟨s6 _ _ h3, fun H7 k7 h7 => ⟨n - (i + 1), by omega, rfl, hlt, by rw [List.length_append, ea]; rfl, fun x hx => ?_, fun b o hb => ?_, h7⟩⟩
    · rcases List.mem_append.mp hx with hx | hx
      · exact hR x hx
      · rw [List.mem_singleton.mp hx]
        exact hv
    · exact k7 b o (fun z => by rw [z, hD] at hb; cases hb) (s6 b o (s3 b o hb))
  · have e : i = n := by omega
    subst e
    exact .inl ⟨Nat.le_refl _, q D _ acc s3 hD h3 ea hR⟩
end L2

set_option Elab.async false
set_option linter.all false
set_option maxRecDepth 100000
set_option maxHeartbeats 4000000
namespace L2
open PySem PySem.Spec PyProof.Rows
/-! ## set(a list of texts), only to ask how many -/
section
variable {κ : Type} [DecidableEq κ]
def metK (val : Nat → κ) : Nat → List κ
  | 0 => []
  | i + 1 => if val i ∈ metK val i then metK val i else metK val i ++ [val i]
theorem metK_le (val : Nat → κ) : ∀ i, (metK val i).length ≤ i
  | 0 => Nat.le_refl _
  | i + 1 => by
    have ih := metK_le val i
    show (if val i ∈ metK val i then metK val i else metK val i ++ [val i]).length ≤ i + 1
    split
    · omega
    · rw [List.length_append]
      show _ + 1 ≤ i + 1
      omega
theorem metK_mem (val : Nat → κ) : ∀ i k, k ∈ metK val i ↔ ∃ j, j < i ∧ val j = k
  | 0, k => ⟨fun h => (List.not_mem_nil h).elim, fun ⟨j, h, _⟩ => absurd h (Nat.not_lt_zero j)⟩
  | i + 1, k => by
    have ih := metK_mem val i
    show k ∈ (if val i ∈ metK val i then metK val i else metK val i ++ [val i]) ↔ _
    constructor
    · intro h
      split at h
      · obtain ⟨j, a, b⟩ := (ih k).mp h
        exact ⟨j, by omega, b⟩
      · rcases List.mem_append.mp h with h | h
        · obtain ⟨j, a, b⟩ := (ih k).mp h
          exact ⟨j, by omega, b⟩
        · exact ⟨i, Nat.lt_succ_self i, (List.mem_singleton.mp h).symm⟩
    · rintro ⟨j, a, b⟩
      by_cases e : j = i
      · subst e
        split
        · rename_i c
          rw [← b]
          exact c
        · exact List.mem_append.mpr (.inr (by rw [b]; exact List.mem_singleton.mpr rfl))
      · have m := (ih k).mpr ⟨j, by omega, b⟩
        split
        · exact m
        · exact List.mem_append.mpr (.inl m)
theorem metK_all (val : Nat → κ) : ∀ i, (∀ a b, a < i → b < i → val a = val b → a = b) → (metK val i).length = i
  | 0, _ => rfl
  | i + 1, h => by
    have ih := metK_all val i fun a b x y => h a b (by omega) (by omega)
    show (if val i ∈ metK val i then metK val i else metK val i ++ [val i]).length = i + 1
    rw [if_neg fun c => ?_, List.length_append, ih]
    · rfl
    · obtain ⟨j, a, b⟩ := (metK_mem val i (val i)).mp c
      have := h j i (by omega) (by omega) b
      omega
theorem metK_less (val : Nat → κ) {a b : Nat} (ab : a < b) (e : val a = val b) : ∀ i, b < i → (metK val i).length < i
  | 0, h => absurd h (Nat.not_lt_zero b)
  | i + 1, h => by
    show (if val i ∈ metK val i then metK val i else metK val i ++ [val i]).length < i + 1
    by_cases eb : b = i
    · subst eb
      rw [if_pos ((metK_mem val b (val b)).mpr ⟨a, ab, e⟩)]
      have := metK_le val b
      omega
    · have ih := metK_less val ab e i (by omega)
      split
      · omega
      · rw [List.length_append]
        show _ + 1 < i + 1
        omega
abbrev nset (led : Bool) : Obj := { cls := .type "set", dict := none, data := .set #[] 0 (.fresh 0 0 led) }
variable {prog : Program} {w : World} {knd : KeyKind prog w κ}
theorem SetOf.conv {h : Heap} {a : Addr} {S S' : κ → Bool} {n n' : Nat} (hS : h.SetOf knd a S n) (e : ∀ k, S k = S' k) (en : n = n') : h.SetOf knd a S' n' := by
  cases (show S = S' from funext e)
  cases en
  exact hS
theorem set_walk {A : Around} {R : Result → Shared → Prop} {it : Addr} {fp wr : List Addr} {G : Array GenState → Array GenState → Prop} {n : Nat} {P : Nat → Value → Prop} {St : Nat → Shared → Prop}
    (W : WalksS prog w A.in1 it fp wr G n P St) (d : Addr) (hd : d ∉ fp) (val : Nat → κ) (hv : ∀ i v, P i v → knd.is (val i) v = true ∧ v.scannable = true) (hb : n + 1 < scanBound) : ∀ (k i : Nat) (s : Shared), n - i = k → i ≤ n → St i s →
      s.heap.SetOf knd d (fun y => decide (y ∈ metK val i)) (metK val i).length →
      (∀ s', Moved (d :: wr) G s s' → s'.heap.SetOf knd d (fun y => decide (y ∈ metK val n)) (metK val n).length → R (.ok (.ret .none)) s') →
      codeAny (model prog w) A (.builtin "set.update.loop" ⟨[.ref d, .ref it], []⟩) R s := by
  have dw : d ∉ wr := fun z => hd (W.sub _ z)
  have sb : ∀ b ∈ wr, b ∈ d :: wr := fun b z => List.mem_cons_of_mem _ z
  intro k
  induction k with
  | zero =>
    intro i s e1 e2 st hS q
    obtain rfl : i = n := by omega
    refine codeAny_builtin PyProof.Rows.F.entry_set_update_loop ?_
    rw [Around.under_plainId PyProof.Rows.F.plain_set_update_loop _]
    refine wpAny_bind (m := pyNext (.ref it)) (W.done s _ _ st fun s' mv => ?_)
    refine wpAny_pure (a := Fin.done (.ret Value.none)) (q s' (mv.mono sb) ?_)
    obtain ⟨o, es, ep, t, ho, rest⟩ := hS
    exact ⟨o, es, ep, t, mv.heap d _ dw ho, rest⟩
  | succ k ih =>
    intro i s e1 e2 st hS q
    have lt : i < n := by omega
    refine codeAny_builtin PyProof.Rows.F.entry_set_update_loop ?_
    rw [Around.under_plainId PyProof.Rows.F.plain_set_update_loop _]
    refine wpAny_bind (m := pyNext (.ref it)) (W.item i s _ _ lt st fun v s' hp st' mv => ?_)
    obtain ⟨hk, hs⟩ := hv i v hp
    have hS' : s'.heap.SetOf knd d (fun y => decide (y ∈ metK val i)) (metK val i).length := by
      obtain ⟨o, es, ep, tb, ho, rest⟩ := hS
      exact ⟨o, es, ep, tb, mv.heap d _ dw ho, rest⟩
    refine wpAny_bind (m := holding [v] (setAdd d v)) (wpAny_holding ?_)
    unfold setAdd
    refine wpAny_holding (wpAny_bind (knd.pyHash (k := val i) hk ?_))
    have room : (metK val i).length + 1 < scanBound := by
      have := metK_le val i
      omega
    refine wpAny_setAddHashed_of (knd := knd) (s := { s' with toks := s'.toks + 1 }) hk hs hS' room fun h' z2 hS2 => ?_
    have hS3 : h'.SetOf knd d (fun y => decide (y ∈ metK val (i + 1))) (metK val (i + 1)).length := by
      refine SetOf.conv hS2 (fun y => ?_) ?_
      · have : (y ∈ metK val (i + 1)) ↔ (y ∈ metK val i ∨ y = val i) := by
          rw [metK_mem, metK_mem]
          constructor
          · rintro ⟨j, a, b⟩
            by_cases c : j = i
            · exact .inr (by rw [← b, c])
            · exact .inl ⟨j, by omega, b⟩
          · rintro (⟨j, a, b⟩ | c)
            · exact ⟨j, by omega, b⟩
            · exact ⟨i, Nat.lt_succ_self i, c.symm⟩
        rw [← Bool.decide_or]
        exact decide_eq_decide.mpr this.symm
      · show _ = (if val i ∈ metK val i then metK val i else metK val i ++ [val i]).length
        by_cases c : val i ∈ metK val i
        · simp [c]
        · simp [c]
    refine wpAny_pure ⟨plainId_quiet PyProof.Rows.F.plain_set_update_loop _, ih (i + 1) _ (by omega) lt (W.frame _ s' _ _ st' (Nat.le_succ _) fun b hb' o e => ?_) hS3 fun s'' mv2 hS4 => ?_⟩
    · rw [z2.2 b fun z => hd (by rw [← z]; exact hb')]
      exact e
    · refine q s'' (Moved.trans W.gtrans ((mv.mono sb).then_heap (Nat.le_succ _) fun b o hb' e => ?_) mv2) hS4
      rw [z2.2 b fun z => hb' (by rw [z]; exact List.mem_cons_self)]
      exact e
theorem call_setK {A : Around} {E : Value → Shared → Prop} {s : Shared} {l : Addr} {items : Array Value} {Q : Value → Shared → Prop} (hh : A.handled = none) (hl : s.heap.IsList l items) (val : Nat → κ) (hv : ∀ i v, items[i]? = some v → knd.is (val i) v = true ∧ v.scannable = true)
    (hb : items.size + 1 < scanBound) (h : ∀ (h' : Heap) (tk : Nat), h'.SetOf knd s.heap.objs.size (fun y => decide (y ∈ metK val items.size)) (metK val items.size).length → (∀ b o, b < s.heap.objs.size → s.heap.get? b = some o → h'.get? b = some o) → Q (.ref s.heap.objs.size) { s with heap := h', toks := tk }) :
    wpAny (model prog w) A (call (.type "set") [.ref l]) Q E s := by
  have cs := PySem.F.called_set
  obtain ⟨c, tl, hmro⟩ := cs.mro
  have hmade := cs.made
  have hsub := cs.sub
  refine wpAny_call (codeAny_of_tree ?_)
  refine wpAny_pure (a := Fin.again _) ⟨Code.quiet_builtin _ (by decide +kernel), codeAny_builtin PySem.F.entry_type_call ?_⟩
  rw [Around.under_plain (weight_type_call_type "set" [.ref l] []) rfl]
  have h1 := cs.notType
  have h2 := cs.canCreate
  have hct := PySem.F.typeCall_set_1 (.ref l)
  repeat (any_goals (first | assumption | wp_step))
  refine codeAny_mono (code_set_new_1 (.ref l) (E := E) (Q₁ := fun obj s1 => ∃ led : Bool, obj = .ref s.heap.objs.size ∧ s1 = { s with heap := s.heap.push (nset led) }) fun led => ⟨led, rfl, rfl⟩) fun r s1 hr => ?_
  match r, hr with
  | .error e, hr => exact hr
  | .ok (.ret obj), hr =>
    obtain ⟨led, rfl, rfl⟩ := hr
    have hS : (s.heap.push (nset led)).get? s.heap.objs.size = some (nset led) := Heap.get?_push_size _ rfl
    have hT : Shared.TypeIs { s with heap := s.heap.push (nset led) } (.ref s.heap.objs.size) "set" := ⟨_, hS, rfl⟩
    have hli := cs.init.lookup
    have hbi := cs.init.bind (.ref s.heap.objs.size)
    repeat (any_goals (first | assumption | wp_step))
    refine codeAny_mono (codeAny_call_builtin (R := wants (fun r s2 => r = .none ∧ ∃ h' tk, s2 = { s with heap := h', toks := tk } ∧ h'.SetOf knd s.heap.objs.size (fun y => decide (y ∈ metK val items.size)) (metK val items.size).length ∧ (∀ b o, b < s.heap.objs.size → s.heap.get? b = some o → h'.get? b = some o)) E) cs.init.plain PySem.F.entry_set_init (check_set_init_1 hT ?_)) fun r2 s2 hr2 => ?_
    · obtain ⟨ol, hol, hcl, nl, hdl⟩ := hl
      obtain ⟨ocls, odict, odata, oslots⟩ := ol
      dsimp only at hcl hdl
      subst hcl hdl
      have hol' : (s.heap.push (nset led)).get? l = some { cls := .type "list", dict := odict, data := .seq items nl, slots := oslots } := Heap.get?_push_of_some _ hol
      have hsls := PySem.F.sub_list_set
      have hslf := PySem.F.sub_list_frozenset
      have hne : (Value.type "list" == Value.type "dict") = false := by decide
      have hl1 : (s.heap.push (nset led)).IsList l items := ⟨_, hol', rfl, nl, rfl⟩
      unfold Builtin.«set.__init__» noKeywords Builtin.Frozenset.updateFrom
      generalize hPI : pyIter = PI
      wp_walk
      subst hPI
      refine wpAny_pyIter_list hl1 (wpAny_bind (wpAny_runValue ?_))
      have lS : l < s.heap.objs.size := Heap.lt_size hol
      have hh3 : A.in1.in1.in1.handled = none := by simp [hh]
      have zz : (s.heap.push (nset led)).objs.size = s.heap.objs.size + 1 := Heap.size_push ..
      refine set_walk (knd := knd) ((Walks.list hh3 _ l (by rw [zz]; exact Nat.ne_of_lt (Nat.lt_succ_of_lt lS)) items).toS) s.heap.objs.size (by
        rw [zz]
        simp only [List.mem_cons, List.not_mem_nil, or_false, not_or]
        exact ⟨Nat.ne_of_lt (Nat.lt_succ_self _), Nat.ne_of_gt lS⟩) val hv hb (items.size - 0) 0 _ (by omega) (Nat.zero_le _) ⟨⟨_, Heap.get?_push_size _ rfl, rfl, rfl⟩, (hl1.push _)⟩ ?S0 ?R0
      case S0 =>
        refine SetOf.conv ((setObjOf_fresh (knd := knd) led).setOf (Heap.get?_push_of_some _ hS) (by unfold scanBound; omega)) (fun y => ?_) rfl
        exact (decide_eq_false fun z => List.not_mem_nil z).symm
      case R0 =>
        intro s' hm hS'
        obtain ⟨h', g', d', tk', os'⟩ := s'
        cases (show g' = s.gens from hm.gens)
        cases (show d' = s.drawn from hm.drawn)
        cases (show os' = s.os from hm.os)
        refine wpAny_pure (wpAny_pure (a := Fin.done (.ret Value.none)) ⟨rfl, h', tk', rfl, hS', fun b o hb e => ?_⟩)
        refine hm.heap b o ?_ (Heap.get?_push_of_some _ (Heap.get?_push_of_some _ e))
        rw [zz]
        simp only [List.mem_cons, List.not_mem_nil, or_false, not_or]
        exact ⟨Nat.ne_of_lt hb, Nat.ne_of_lt (Nat.lt_succ_of_lt hb)⟩
    · match r2, hr2 with
      | .error e, hr2 => exact hr2
      | .ok (.ret r), hr2 =>
        obtain ⟨rfl, h', tk, rfl, hS', hk'⟩ := hr2
        repeat (any_goals (first | assumption | wp_step))
        exact h _ _ hS' hk'
end
end L2

set_option Elab.async false
set_option linter.all false
set_option maxRecDepth 100000
set_option maxHeartbeats 4000000
namespace L2
open PySem PySem.Spec PyProof.Rows
theorem bt_set : bootBuiltins "set" = some (.type "set") := by decide +kernel
def tLSet (K : PySem.W.Frag) (ta : TA) : TE := fun σ H Q => ta σ H fun vs H1 => ∃ (l : Addr) (zs : List Str), vs = [.ref l] ∧ SqL K H1 l (zs.map V.str) ∧ zs.length ≤ 100 ∧ Q (.int (metK (fun i => zs.getD i Str.empty) zs.length).length) H1
section
variable {X : Cx} {a : Expr} {ta : TA} {p p2 pos pos2 : Pos}
theorem pe_lenset (hc : X.calm = true) (hgl : Gl X "len") (hml : X.mg "len" = none) (hg : Gl X "set") (hm : X.mg "set" = none) (ha : PA X [a] ta)
    (hs : starEach [a] X.env = [(false, eval a X.env)] := by rfl)
    (hs2 : starEach [Expr.Call (.Name "set" p2) [a] [] pos2] X.env = [(false, eval (.Call (.Name "set" p2) [a] [] pos2) X.env)] := by rfl) :
    PE X (.Call (.Name "len" p) [.Call (.Name "set" p2) [a] [] pos2] [] pos) (tLSet X.K ta) := by
  with_unfolding_all
    intro pins s σ H Q I h
    refine Call_ (ld_blt I hgl hml boot_len (PyProof.Rows.callWith_builtin1 ?_ hs2 rfl))
    rw [hs2]
    refine Calls.spliced_cons ?_
    refine Call_ (ld_blt I hg hm bt_set (PyProof.Rows.callWith_type1 (thn (ha pos2 pins s σ H _ I h) fun us s1 ⟨vs, H1, I1, r1, q1⟩ => ?_) hs rfl))
    obtain ⟨l, zs, rfl, hq, hz, q⟩ := q1
    obtain ⟨u, rfl, ru⟩ := vals1 r1
    cases (show u = Value.ref l from ru)
    obtain ⟨its, rv, pl, _⟩ := I1.list hq
    have ln : its.length = zs.length := by
      have := rv.length
      rw [List.length_map] at this
      exact this.symm
    have sb : (102 : Nat) < scanBound := by decide
    refine call_setK (knd := strKind X.prog X.w) (I1.ok.hd hc) pl.isList (fun i => zs.getD i Str.empty) (fun i v hi => ?_) (by rw [List.size_toArray]; omega) fun h' tk hS kp => ?_
    · have hi' : its[i]? = some v := by simpa using hi
      have hlt : i < zs.length := by
        have := (List.getElem?_eq_some_iff.mp hi').1
        omega
      have ez : zs[i]? = some zs[i] := List.getElem?_eq_getElem hlt
      have := paired_get rv (show (zs.map V.str)[i]? = some (V.str zs[i]) by rw [List.getElem?_map, ez]; rfl) hi'
      obtain ⟨t, rfl⟩ := this
      have eg : zs.getD i Str.empty = zs[i] := by rw [List.getD_eq_getElem?_getD, ez]; rfl
      rw [eg]
      exact ⟨strKind_is _ _ _ _, rfl⟩
    refine Calls.spliced_nil ?_
    have I2 : Inv X pins σ H1 { s1 with heap := h', toks := tk } := I1.kept fun b o e => kp b o (Heap.lt_size e) e
    obtain ⟨o, es, ep, t, ho, hex, hd, rest⟩ := hS
    have hf' := rest.2.2.2.1
    have en : es.size = (metK (fun i => zs.getD i Str.empty) zs.length).length := by
      have e := rest.2.2.2.2
      rw [show its.toArray.size = zs.length by rw [List.size_toArray, ln]] at e
      exact e
    have h63 : (es.size : Int) < 2 ^ 63 := by
      have hb := rest.2.2.1
      have : scanBound ≤ 1000000000 := by decide
      omega
    refine call_len_set (a := s1.heap.objs.size) ho hex hd hf' h63 ⟨.int _, H1, I2.tok _, ⟨_, by rw [en]⟩, q⟩
end
/-! ## classes whose __init__ does more than keep -/
def PassesAt (CX : CXT) (X : Cx) (E : XK) (σ : St) : Prop := ∀ (pins : List (Addr × Obj)) (H : Hp) (s : Shared) (e : Value) (s' : Shared), Inv X pins σ H s → CX X.stack H s E e s' → X.xe e s'
theorem Passes.at {CX : CXT} {X : Cx} {E : XK} (h : Passes CX X E) (σ : St) : PassesAt CX X E σ := fun pins H s e s' I c => h pins σ H s e s' I c
section
variable {X : Cx} {CX : CXT} {k : Nat} {f C : Addr} {fd : FuncData} {ps : List Str} {sp spi : Sp} {E : XK} {x m : Str} {p pos apos : Pos} {e o : Expr} {es : List Expr} {ta : TE} {t : TA}
theorem run_makeA {pins : List (Addr × Obj)} {σ : St} {H : Hp} {s : Shared} {Q : VK} {us : List Value} {vs : List V} (M : Mk X.K C f) (F : FnOk X.prog X.w X.K X.mg X.base CX k f fd ps sp) (hr : Room (k + 1) X.A) (hb : Binds X.K fd ps [])
    (hx : PassesAt CX X E σ) (I : Inv X pins σ H s) (r : Vals vs us)
    (h : ∀ x dx, H x = none → H dx = none → dx ≠ x → sp (.ref x :: vs) (upd (upd H dx (.own x)) x (.ins C dx [])) (fun v H2 => v = .non ∧ Q (.ref x) H2) E) :
    wpAny (model X.prog X.w) X.A (call (.ref C) us) (EP X pins σ Q) X.xe s := by
  have hq := h (s.heap.objs.size + 1) s.heap.objs.size (I.hok.fresh (Nat.le_succ _)) (I.hok.fresh (Nat.le_refl _)) (Nat.ne_of_lt (Nat.lt_succ_self _))
  have I2 := Inv.made (C := C) I
  have r2 : Vals (V.ref (s.heap.objs.size + 1) :: vs) (Value.ref (s.heap.objs.size + 1) :: us) := .cons rfl r
  have hl : (Value.ref (s.heap.objs.size + 1) :: us ++ []).length = ps.length := by
    have e := r2.length
    rw [F.len _ _ _ _ hq] at e
    rw [List.append_nil]
    exact e.symm
  have hbb := hb _ (Value.ref (s.heap.objs.size + 1) :: us) I2.kIn hl
  rw [List.append_nil] at hbb
  refine wpAny_call (make_map (f := f) I.kIn M.makes M.init (beq_iff_eq.mp M.fn) (codeAny_mono (F.run _ X.stack _ _ ⟨Value.ref (s.heap.objs.size + 1) :: us, []⟩ (Value.ref (s.heap.objs.size + 1) :: us) _ _ E (hr.make C us [])
    (I2.env0.make C us []) hbb r2 hq) fun r s' hq' => ?_))
  match r, hq' with
  | .error e, hq' => exact hx pins _ _ e s' I2 hq'
  | .ok (.ret u), hq' =>
    obtain ⟨v, H', I3, rv, ev, q3⟩ := I2.after hq'
    subst ev
    exact ⟨rv, ⟨V.ref (s.heap.objs.size + 1), H', I3, rfl, q3⟩⟩
structure MakG (CX : CXT) (P : Program) (w : World) (K : PySem.W.Frag) (mg : Str → Option Value) (base : Heap) (x : Str) (C : Addr) (k : Nat) (sp : Sp) : Prop where
  ex : ∃ f fd ps spi, Mk K C f ∧ FnOk P w K mg base CX k f fd ps spi ∧ Binds K fd ps [] ∧ mg x = some (.ref C) ∧
    ∀ vs H Q E, sp vs H Q E → ∀ y dx, H y = none → H dx = none → dx ≠ y → spi (.ref y :: vs) (upd (upd H dx (.own y)) y (.ins C dx [])) (fun v H2 => v = .non ∧ Q (.ref y) H2) E
def tMakG (sp : Sp) (E : XK) (t : TA) : TE := fun σ H Q => t σ H fun vs H1 => sp vs H1 Q E
theorem pe_makG (M : MakG CX X.prog X.w X.K X.mg X.base x C k sp) (hr : Room (k + 1) X.A) (hg : Gl X x) (hx : Passes CX X E) (ha : PA X (e :: es) t) (hdb : (x == ("__debug__" : Str)) = false := by decide)
    (he : starEach (e :: es) X.env = (false, eval e X.env) :: starEach es X.env := by rfl) (hpl : (backTo pos (starEach es X.env)).any (·.1) = false := by rfl) : PE X (.Call (.Name x p) (e :: es) [] pos) (tMakG sp E t) := by
  obtain ⟨f, fd, ps, spi, mk, F, b, m, im⟩ := M.ex
  with_unfolding_all
    intro pins s σ H Q I h
    refine wpAny_Call_Name_kw (ld_glob I hg m ?_ hdb)
    refine PySem.W.callWith_K (h₀ := X.base) I.ok.mod.kin mk.kp (thn (ha pos pins s σ H _ I h) fun us s1 ⟨vs, H1, I1, r, q⟩ => ⟨I1.kIn, ?_⟩) he hpl
    exact run_makeA mk F hr b (hx.at σ) I1 r (im _ _ _ _ q)
end
end L2

set_option Elab.async false
set_option linter.all false
set_option maxRecDepth 100000
set_option maxHeartbeats 4000000
namespace L2
open PySem PySem.Spec PyProof.Rows
section
variable {X : Cx} {CX : CXT} {k : Nat} {E : XK} {m : Str} {pos apos : Pos} {e o : Expr} {es : List Expr} {ta : TE} {t : TA}
theorem pe_mth0K {P : Program} {w : World} {K : PySem.W.Frag} {mg : Str → Option Value} {base : Heap} {pl : Sem Bool} (h1 : X.prog = P) (h2 : X.w = w) (h3 : X.K = K) (h4 : X.mg = mg) (h5 : X.base = base) (he : PE X o ta) (hr : Room k X.A) (hx : Passes CX X E)
    (ht : eval (.Call (.Attribute o m apos) [] [] pos) X.env = (do
      let ov ← eval o X.env
      standAt apos.atName
      let (f, first) ← holding [ov] (getMethod ov m pl)
      callWith pos f first (backTo pos (starEach [] X.env)) (backToKw pos (keywordEach [] X.env))) := by rfl) :
    PE X (.Call (.Attribute o m apos) [] [] pos) (tMth P w K mg base CX k m E ta tNil) := by
  subst h1 h2 h3 h4 h5
  exact pe_mth0 he hr hx ht
end
/-! ## a text is never a list, a tuple, a dict -/
open PySem.SeqAt in
theorem rc_str_dict {A : Around} {s : Shared} {d : Addr} {es : Array DictEntry} {ep : Nat} {dd : Option Addr} {sl : Array (Option Value)} (b : Str) (u : Tok) (ho : s.heap.get? d = some { cls := .type "dict", dict := dd, data := .dict es ep, slots := sl }) (hu : A.units < cLine) : RcAt A s (.str b u) (.ref d) false := fun prog w E Q h => by
  have m1 : Meets (Builtin.«str.__eq__» ⟨[.str b u, .ref d], []⟩) (fun _ R s => s.heap.get? d = some { cls := .type "dict", dict := dd, data := .dict es ep, slots := sl } ∧ R (.ok (.ret .notImplemented)) s) :=
    .of_wp fun prog w A R s h => by
      obtain ⟨hp, g, d', tk, os⟩ := s
      obtain ⟨hl, h⟩ := h
      wp_walk using AutoSeq1.wpAny_loadPart' hl, wpAny_load hl
      exact ⟨_, rfl, h⟩
  have f1 : isSubtype (.type "str") (.type "dict") = pure false := by rw [isSubtype_type]; kernel_rfl
  have f2 : isSubtype (.type "dict") (.type "str") = pure false := by rw [isSubtype_type]; kernel_rfl
  have m2 : Meets (Builtin.«dict.__eq__» ⟨[.ref d, .str b u], []⟩) (fun _ R s => s.heap.get? d = some { cls := .type "dict", dict := dd, data := .dict es ep, slots := sl } ∧ R (.ok (.ret .notImplemented)) s) :=
    .of_wp fun prog w A R s h => by
      obtain ⟨hp, g, d', tk, os⟩ := s
      obtain ⟨hl, h⟩ := h
      wp_walk using AutoSeq1.wpAny_loadPart' hl, wpAny_load hl
      exact ⟨_, rfl, h⟩
  exact rc_eq_decline_or (k := false) (typeIs_str s b u) ⟨_, ho, rfl⟩ (by decide) f2 PySem.F.slot_str_eq PySem.F.slot_dict_eq_refl
    (fun _ hq => call_meets PySem.F.slot_str_eq (typeIs_str s b u) PySem.F.entry_str_eq (PySem.F.args_str_eq_2 _ _) m1 ⟨ho, hq⟩)
    (fun _ hq => call_meets PySem.F.slot_dict_eq_refl ⟨_, ho, rfl⟩ PySem.F.entry_dict_eq (PySem.F.args_dict_eq_2 _ _) m2 ⟨ho, hq⟩)
    (fun _ hq => wpAny_of_eq (rfl : isSame (.str b u) (.ref d) = pure false) hq) (.inr hu) h
def rEqS : R2 := fun x y H Q => ∃ z, x = .str z ∧ ((∃ z', y = .str z' ∧ Q (.bl (decide (z = z'))) H) ∨ (y = .non ∧ Q (.bl false) H) ∨ (∃ b, y = .bl b ∧ Q (.bl false) H) ∨ (∃ i, y = .int i ∧ Q (.bl false) H) ∨
  ∃ p o, y = .ref p ∧ H p = some o ∧ ((∃ xs, o = .tup xs) ∨ (∃ xs, o = .lst xs) ∨ ∃ kvs, o = .dK kvs) ∧ Q (.bl false) H)
theorem op_eqS {X : Cx} (hu : X.A.units < cLine) : OpR X (compareOp .Eq) rEqS := by
  intro pins s σ H x y v u Q I rx ry h
  obtain ⟨z, rfl, h⟩ := h
  obtain ⟨t, rfl⟩ := rx
  rcases h with ⟨z', rfl, q⟩ | ⟨rfl, q⟩ | ⟨b, rfl, q⟩ | ⟨i, rfl, q⟩ | ⟨p, o, rfl, ho, hk, q⟩
  · exact op_eq pins s σ H (.str z) (.str z') _ u Q I ⟨t, rfl⟩ ry ⟨rfl, by
      have : decide (V.str z = V.str z') = decide (z = z') := by simp
      rw [this]
      exact q⟩
  · cases (show u = Value.none from ry)
    exact SeqAt.RcAt.str_none z t X.prog X.w X.xe _ ⟨.bl false, H, I, rfl, q⟩
  · cases (show u = Value.bool b from ry)
    exact SeqAt.RcAt.str_bool z t b X.prog X.w X.xe _ ⟨.bl false, H, I, rfl, q⟩
  · obtain ⟨t', rfl⟩ := ry
    exact SeqAt.RcAt.str_int z t i t' X.prog X.w X.xe _ ⟨.bl false, H, I, rfl, q⟩
  · cases (show u = Value.ref p from ry)
    rcases hk with ⟨xs, rfl⟩ | ⟨xs, rfl⟩ | ⟨kvs, rfl⟩
    · obtain ⟨_, its, _, pl⟩ := (show ObjOk X.prog X.w H s.heap p (.tup xs) from I.hok p _ ho)
      exact SeqAt.RcAt.str_tuple z t pl hu X.prog X.w X.xe _ ⟨.bl false, H, I, rfl, q⟩
    · obtain ⟨_, its, n, _, g⟩ := (show ObjOk X.prog X.w H s.heap p (.lst xs) from I.hok p _ ho)
      exact SeqAt.RcAt.str_list z t ⟨_, g, rfl, n, rfl⟩ hu X.prog X.w X.xe _ ⟨.bl false, H, I, rfl, q⟩
    · obtain ⟨_, _, vs, _, ob, es, ep, e, ⟨c1, c2, c3⟩, hd, _⟩ := (show ObjOk X.prog X.w H s.heap p (.dK kvs) from I.hok p _ ho)
      obtain ⟨cls, dd, data, sl⟩ := ob
      dsimp only at c1 hd
      subst c1 hd
      exact rc_str_dict z t e hu X.prog X.w X.xe _ ⟨.bl false, H, I, rfl, q⟩
end L2

set_option Elab.async false
set_option linter.all false
set_option maxRecDepth 100000
set_option maxHeartbeats 4000000
namespace L2
open PySem PySem.Spec PyProof.Rows
theorem foldl_one (c : Nat) : ∀ (m : Nat) (a : Array Nat), (List.replicate m #[c]).foldl (· ++ ·) a = a ++ (List.replicate m c).toArray
  | 0, a => by simp
  | m + 1, a => by
    rw [List.replicate_succ, List.foldl_cons, foldl_one c m, List.replicate_succ]
    apply Array.ext'
    simp
theorem op_repT {X : Cx} : OpR X (binaryOp .Mult) (fun x y H Q => ∃ (c : Nat) (n : Int), x = .str ⟨#[c]⟩ ∧ y = .int n ∧ 1 ≤ n ∧ n ≤ 100 ∧ Q (.str ⟨(List.replicate n.toNat c).toArray⟩) H) := by
  intro pins s σ H x y v u Q I rx ry h
  obtain ⟨c, n, rfl, rfl, n0, n1, q⟩ := h
  obtain ⟨t, rfl⟩ := rx
  obtain ⟨t', rfl⟩ := ry
  have ln : (⟨#[c]⟩ : Str).length = 1 := rfl
  refine P.mul_str (by rw [decide_eq_false (by omega), decide_eq_false (by omega)]; rfl) (fun _ _ => ?_) (fun _ _ => ?_) ?_
  · rw [ln]
    have : (2 ^ 63 - 1 : Int) / n ≥ 1 := by
      have : (1 : Int) * n ≤ 2 ^ 63 - 1 := by omega
      exact Int.le_ediv_of_mul_le (by omega) this
    omega
  · rw [ln, Nat.one_mul]
    unfold Builtin.Str.tooLong
    have : (200 : Nat) ≤ sizeLine := by decide
    simp
    omega
  · rw [if_neg (by omega)]
    by_cases e : n = 1
    · subst e
      rw [if_pos (show ((1 : Int) == 1 || (⟨#[c]⟩ : Str).length == 0) = true from rfl)]
      exact ⟨.str _, H, I, ⟨t, rfl⟩, q⟩
    · rw [if_neg (by rw [ln]; simp [e]), foldl_one]
      have zl : (200 : Nat) ≤ sizeLine := by decide
      have ll : (⟨#[] ++ (List.replicate n.toNat c).toArray⟩ : Str).length = n.toNat := by
        show (#[] ++ (List.replicate n.toNat c).toArray).size = n.toNat
        simp
      refine ⟨by rw [ll]; omega, .str _, H, I.tok _, ⟨_, rfl⟩, ?_⟩
      simpa using q
end L2

set_option Elab.async false
set_option linter.all false
set_option maxRecDepth 100000
set_option maxHeartbeats 4000000
namespace K34
open PySem L2
local macro_rules | `(tactic| walk_at "same") => `(tactic| first | exact Same.refl _ | assumption | (refine Same.trans (by assumption) ?_; walk_at "same"))
local macro_rules | `(tactic| walk_at "sq") => `(tactic| first | assumption | exact SqT.of (by assumption) | exact SqL.of (by assumption) | (refine Same.tup (by assumption) ?_; walk_at "sq") | (refine Same.seq (by assumption) ?_; walk_at "sq") | (refine Same.use (by assumption) ?_; walk_at "sq"))
local macro_rules | `(tactic| walk_at "leaf") => `(tactic| first | rfl | assumption | walk_at "sq" | (refine Or.inl ?_; walk_at "sq") | (refine Or.inr ?_; walk_at "sq") | exact sz _ (by decide) | exact ⟨by decide, by decide⟩ | exact ⟨by decide, by decide, by decide⟩ | exact Or.inl ⟨by decide, by decide⟩ | exact Or.inr ⟨by decide, by decide⟩ | (dsimp only; omega) | omega | exact Or.inl ⟨by omega, by omega⟩ | exact Or.inr ⟨by omega, by omega⟩ | exact ⟨by omega, by omega⟩ | (show (0 : Int) < _; decide))
local macro_rules | `(tactic| walk_at "rd") => `(tactic| repeat (first | apply Exists.intro | refine And.intro (by walk_at "leaf") ?_ | refine iteT ?_ | refine iteF ?_))
def top (i : Nat) : Stmt := PySem.Challenge.pw_greywait_k34_claims_and_chores.main.body.getD i (.Pass ⟨0, 0, 0, 0⟩)
abbrev s_claim_of : Stmt := top 15
abbrev s_chore_of : Stmt := top 16
abbrev s_is_whole : Stmt := top 19
abbrev s_all_between : Stmt := top 20
abbrev s_is_name : Stmt := top 21
abbrev s_common_divisor : Stmt := top 25
abbrev s_lowest : Stmt := top 26
abbrev s_is_weight : Stmt := top 27
abbrev s_is_row : Stmt := top 32
abbrev s_are_rows : Stmt := top 33
abbrev s_in_lowest : Stmt := top 34
abbrev s_sort_from : Stmt := top 36
abbrev s_law_cell : Stmt := top 39
abbrev s_law_mix : Stmt := top 40
abbrev s_law_draw : Stmt := top 41
abbrev s_law_lowest : Stmt := top 42
abbrev s_law_rows : Stmt := top 43
abbrev s_law_piece : Stmt := top 44
abbrev s_law_told : Stmt := top 45
abbrev s_law_right : Stmt := top 46
abbrev s_law : Stmt := top 47
abbrev s_Piece___init__ : Stmt := inClass (top 8) 0
abbrev s_Piece_is_open : Stmt := inClass (top 8) 3
abbrev s_Piece_work_left : Stmt := inClass (top 8) 4
abbrev s_Held_is_open : Stmt := inClass (top 9) 1
abbrev s_Waiting_is_open : Stmt := inClass (top 10) 1
abbrev s_Sort___init__ : Stmt := inClass (top 35) 0
abbrev s_Sort_as_row : Stmt := inClass (top 35) 1
abbrev s_Sorts___init__ : Stmt := inClass (top 37) 0
abbrev s_Sorts_sort_of : Stmt := inClass (top 37) 3
abbrev s_Sorts_with_speed : Stmt := inClass (top 37) 5
abbrev si_NoSort : Stmt := inClass (top 5) 0
theorem sci_NoSort : FnScope ["self", "name"] ["self", "name"] (defScope si_NoSort) := ⟨rfl, rfl, rfl, by decide +kernel, rfl, by decide +kernel, by decide +kernel⟩
abbrev si_Over : Stmt := inClass (top 6) 0
theorem sci_Over : FnScope ["self", "number"] ["self", "number"] (defScope si_Over) := ⟨rfl, rfl, rfl, by decide +kernel, rfl, by decide +kernel, by decide +kernel⟩
structure Txt (K : PySem.W.Frag) (mg : Str → Option Value) (c_WaitError c_NoWeight c_NoSorts c_NoSort c_Over c_Piece c_Held c_Waiting c_Done c_GivenUp c_CalledOff c_Missed c_Sort c_Sorts : Addr) : Prop where
  nd : [c_WaitError, c_NoWeight, c_NoSorts, c_NoSort, c_Over].Nodup
  g_WaitError : mg "WaitError" = some (.ref c_WaitError)
  d_WaitError : XD K c_WaitError [.type "ValueError", .type "Exception", .type "BaseException", .type "object"]
  x_WaitError : XCls K c_WaitError
  g_NoWeight : mg "NoWeight" = some (.ref c_NoWeight)
  d_NoWeight : XD K c_NoWeight [.ref c_WaitError, .type "ValueError", .type "Exception", .type "BaseException", .type "object"]
  x_NoWeight : XCls K c_NoWeight
  g_NoSorts : mg "NoSorts" = some (.ref c_NoSorts)
  d_NoSorts : XD K c_NoSorts [.ref c_WaitError, .type "ValueError", .type "Exception", .type "BaseException", .type "object"]
  x_NoSorts : XCls K c_NoSorts
  g_NoSort : mg "NoSort" = some (.ref c_NoSort)
  d_NoSort : XD K c_NoSort [.ref c_WaitError, .type "ValueError", .type "Exception", .type "BaseException", .type "object"]
  x_NoSort : XCls K c_NoSort
  n_NoSort : NoAttr K c_NoSort "name"
  g_Over : mg "Over" = some (.ref c_Over)
  d_Over : XD K c_Over [.ref c_WaitError, .type "ValueError", .type "Exception", .type "BaseException", .type "object"]
  x_Over : XCls K c_Over
  n_Over : NoAttr K c_Over "number"
  b_abs : mg "abs" = none
  b_all : mg "all" = none
  b_bool : mg "bool" = none
  b_int : mg "int" = none
  b_isinstance : mg "isinstance" = none
  b_len : mg "len" = none
  b_list : mg "list" = none
  b_range : mg "range" = none
  b_set : mg "set" = none
  b_str : mg "str" = none
  b_tuple : mg "tuple" = none
  g_LONGEST_NAME : ∃ t, mg "LONGEST_NAME" = some (.int 8 t)
  g_MOST_TOP : ∃ t, mg "MOST_TOP" = some (.int 1000000 t)
  g_MOST_BOTTOM : ∃ t, mg "MOST_BOTTOM" = some (.int 12 t)
  g_MOST_SORTS : ∃ t, mg "MOST_SORTS" = some (.int 8 t)
  g_MOST_SPAN : ∃ t, mg "MOST_SPAN" = some (.int 4 t)
  g_MOST_TRIES : ∃ t, mg "MOST_TRIES" = some (.int 3 t)
  g_Piece : mg "Piece" = some (.ref c_Piece)
  o_Piece : Own K c_Piece
  g_Held : mg "Held" = some (.ref c_Held)
  o_Held : Own K c_Held
  n_Held_number : NoAttr K c_Held "number"
  n_Held_sort_name : NoAttr K c_Held "sort_name"
  n_Held_came : NoAttr K c_Held "came"
  n_Held_span : NoAttr K c_Held "span"
  n_Held_tries : NoAttr K c_Held "tries"
  n_Held_spent : NoAttr K c_Held "spent"
  g_Waiting : mg "Waiting" = some (.ref c_Waiting)
  o_Waiting : Own K c_Waiting
  n_Waiting_number : NoAttr K c_Waiting "number"
  n_Waiting_sort_name : NoAttr K c_Waiting "sort_name"
  n_Waiting_came : NoAttr K c_Waiting "came"
  n_Waiting_span : NoAttr K c_Waiting "span"
  n_Waiting_tries : NoAttr K c_Waiting "tries"
  n_Waiting_spent : NoAttr K c_Waiting "spent"
  g_Done : mg "Done" = some (.ref c_Done)
  o_Done : Own K c_Done
  n_Done_number : NoAttr K c_Done "number"
  n_Done_sort_name : NoAttr K c_Done "sort_name"
  n_Done_came : NoAttr K c_Done "came"
  n_Done_span : NoAttr K c_Done "span"
  n_Done_tries : NoAttr K c_Done "tries"
  n_Done_spent : NoAttr K c_Done "spent"
  g_GivenUp : mg "GivenUp" = some (.ref c_GivenUp)
  o_GivenUp : Own K c_GivenUp
  n_GivenUp_number : NoAttr K c_GivenUp "number"
  n_GivenUp_sort_name : NoAttr K c_GivenUp "sort_name"
  n_GivenUp_came : NoAttr K c_GivenUp "came"
  n_GivenUp_span : NoAttr K c_GivenUp "span"
  n_GivenUp_tries : NoAttr K c_GivenUp "tries"
  n_GivenUp_spent : NoAttr K c_GivenUp "spent"
  g_CalledOff : mg "CalledOff" = some (.ref c_CalledOff)
  o_CalledOff : Own K c_CalledOff
  n_CalledOff_number : NoAttr K c_CalledOff "number"
  n_CalledOff_sort_name : NoAttr K c_CalledOff "sort_name"
  n_CalledOff_came : NoAttr K c_CalledOff "came"
  n_CalledOff_span : NoAttr K c_CalledOff "span"
  n_CalledOff_tries : NoAttr K c_CalledOff "tries"
  n_CalledOff_spent : NoAttr K c_CalledOff "spent"
  g_Missed : mg "Missed" = some (.ref c_Missed)
  o_Missed : Own K c_Missed
  n_Missed_number : NoAttr K c_Missed "number"
  n_Missed_sort_name : NoAttr K c_Missed "sort_name"
  n_Missed_came : NoAttr K c_Missed "came"
  n_Missed_span : NoAttr K c_Missed "span"
  n_Missed_tries : NoAttr K c_Missed "tries"
  n_Missed_spent : NoAttr K c_Missed "spent"
  g_Sort : mg "Sort" = some (.ref c_Sort)
  o_Sort : Own K c_Sort
  n_Sort_name : NoAttr K c_Sort "name"
  n_Sort_weight : NoAttr K c_Sort "weight"
  n_Sort_speed : NoAttr K c_Sort "speed"
  n_Sort_span : NoAttr K c_Sort "span"
  n_Sort_tries : NoAttr K c_Sort "tries"
  g_Sorts : mg "Sorts" = some (.ref c_Sorts)
  o_Sorts : Own K c_Sorts
  n_Sorts_rows : NoAttr K c_Sorts "rows"
  q_int_int : PySem.W.kitOne K (.type "int") (.type "int") = some true
  q_int_bool : PySem.W.kitOne K (.type "int") (.type "bool") = some false
  q_bool_bool : PySem.W.kitOne K (.type "bool") (.type "bool") = some true
  q_str_str : PySem.W.kitOne K (.type "str") (.type "str") = some true
  q_tuple_tuple : PySem.W.kitOne K (.type "tuple") (.type "tuple") = some true
  q_list_list : PySem.W.kitOne K (.type "list") (.type "list") = some true
section
variable {c_WaitError c_NoWeight c_NoSorts c_NoSort c_Over c_Piece c_Held c_Waiting c_Done c_GivenUp c_CalledOff c_Missed c_Sort c_Sorts : Addr}
variable {P : Program} {w : World} {K : PySem.W.Frag} {mg : Str → Option Value} {base : Heap} {f : Addr} {fd : FuncData}
inductive Wd where
  | held
  | waiting
  | done
  | givenUp
  | calledOff
  | missed
  deriving DecidableEq
def Wd.str : Wd → Str
  | .held => "held"
  | .waiting => "waiting"
  | .done => "done"
  | .givenUp => "given up"
  | .calledOff => "called off"
  | .missed => "missed"
def Wd.opn : Wd → Bool
  | .held => true
  | .waiting => true
  | _ => false
structure CsA where
  h : Addr
  w : Addr
  d : Addr
  g : Addr
  c : Addr
  m : Addr
def CsA.cl (cs : CsA) : Wd → Addr
  | .held => cs.h
  | .waiting => cs.w
  | .done => cs.d
  | .givenUp => cs.g
  | .calledOff => cs.c
  | .missed => cs.m
structure Pv where
  n : Int
  nm : Str
  came : Int
  span : Int
  tries : Int
  spent : Int
def Pv.fs (p : Pv) : List (Str × V) := [("number", .int p.n), ("sort_name", .str p.nm), ("came", .int p.came), ("span", .int p.span), ("tries", .int p.tries), ("spent", .int p.spent)]
def IsPc (cs : CsA) (H : Hp) (a : Addr) (d : Wd) (p : Pv) : Prop := ∃ dx, H a = some (.ins (cs.cl d) dx p.fs)
theorem IsPc.same {cs : CsA} {H H' : Hp} {a : Addr} {d : Wd} {p : Pv} (s : Same H H') (h : IsPc cs H a d p) : IsPc cs H' a d p := let ⟨dx, e⟩ := h; ⟨dx, s _ _ e⟩
structure Six (K : PySem.W.Frag) (cs : CsA) : Prop where
  ow : ∀ d, Own K (cs.cl d)
  n1 : ∀ d, NoAttr K (cs.cl d) "number"
  n2 : ∀ d, NoAttr K (cs.cl d) "sort_name"
  n3 : ∀ d, NoAttr K (cs.cl d) "came"
  n4 : ∀ d, NoAttr K (cs.cl d) "span"
  n5 : ∀ d, NoAttr K (cs.cl d) "tries"
  n6 : ∀ d, NoAttr K (cs.cl d) "spent"
def names6 : List Str := ["number", "sort_name", "came", "span", "tries", "spent"]
theorem six_of (T : Txt K mg c_WaitError c_NoWeight c_NoSorts c_NoSort c_Over c_Piece c_Held c_Waiting c_Done c_GivenUp c_CalledOff c_Missed c_Sort c_Sorts) : Six K (CsA.mk c_Held c_Waiting c_Done c_GivenUp c_CalledOff c_Missed) where
  ow d := match d with | .held => T.o_Held | .waiting => T.o_Waiting | .done => T.o_Done | .givenUp => T.o_GivenUp | .calledOff => T.o_CalledOff | .missed => T.o_Missed
  n1 d := match d with | .held => T.n_Held_number | .waiting => T.n_Waiting_number | .done => T.n_Done_number | .givenUp => T.n_GivenUp_number | .calledOff => T.n_CalledOff_number | .missed => T.n_Missed_number
  n2 d := match d with | .held => T.n_Held_sort_name | .waiting => T.n_Waiting_sort_name | .done => T.n_Done_sort_name | .givenUp => T.n_GivenUp_sort_name | .calledOff => T.n_CalledOff_sort_name | .missed => T.n_Missed_sort_name
  n3 d := match d with | .held => T.n_Held_came | .waiting => T.n_Waiting_came | .done => T.n_Done_came | .givenUp => T.n_GivenUp_came | .calledOff => T.n_CalledOff_came | .missed => T.n_Missed_came
  n4 d := match d with | .held => T.n_Held_span | .waiting => T.n_Waiting_span | .done => T.n_Done_span | .givenUp => T.n_GivenUp_span | .calledOff => T.n_CalledOff_span | .missed => T.n_Missed_span
  n5 d := match d with | .held => T.n_Held_tries | .waiting => T.n_Waiting_tries | .done => T.n_Done_tries | .givenUp => T.n_GivenUp_tries | .calledOff => T.n_CalledOff_tries | .missed => T.n_Missed_tries
  n6 d := match d with | .held => T.n_Held_spent | .waiting => T.n_Waiting_spent | .done => T.n_Done_spent | .givenUp => T.n_GivenUp_spent | .calledOff => T.n_CalledOff_spent | .missed => T.n_Missed_spent
theorem no6 {C : Addr} (a : NoAttr K C "number") (b : NoAttr K C "sort_name") (c : NoAttr K C "came") (d : NoAttr K C "span") (e : NoAttr K C "tries") (f : NoAttr K C "spent") : ∀ g, g ∈ names6 → NoAttr K C g := fun g hg => by
  rcases List.mem_cons.mp hg with rfl | hg
  · exact a
  rcases List.mem_cons.mp hg with rfl | hg
  · exact b
  rcases List.mem_cons.mp hg with rfl | hg
  · exact c
  rcases List.mem_cons.mp hg with rfl | hg
  · exact d
  rcases List.mem_cons.mp hg with rfl | hg
  · exact e
  rw [List.mem_singleton.mp hg]
  exact f
theorem sc_Piece___init__ : FnScope ["self", "number", "sort_name", "came", "span", "tries", "spent"] ["self", "number", "sort_name", "came", "span", "tries", "spent"] (defScope s_Piece___init__) := ⟨rfl, rfl, rfl, by decide +kernel, rfl, by decide +kernel, by decide +kernel⟩
theorem ok_Piece___init__ {u : Value} (D : MfnE K "__init__" "Piece.__init__" s_Piece___init__ ["self", "number", "sort_name", "came", "span", "tries", "spent"] f fd u) (T : Txt K mg c_WaitError c_NoWeight c_NoSorts c_NoSort c_Over c_Piece c_Held c_Waiting c_Done c_GivenUp c_CalledOff c_Missed c_Sort c_Sorts) : FnOk P w K mg base CX0 1 f fd ["self", "number", "sort_name", "came", "span", "tries", "spent"] (spInit K names6) := by
  refine D.F.ok sc_Piece___init__ (fun vs H Q E h => ?_) (fun cdv A outer s H vs Q E hr h => ?_)
  · obtain ⟨x, C, dx, args, rfl, _, _, _, l, _⟩ := h
    rw [List.length_cons, l]
    rfl
  obtain ⟨x, C, dx, args, rfl, hx, cl, no, l, q⟩ := h
  obtain ⟨a1, a2, a3, a4, a5, a6, rfl⟩ := ul6 l
  refine ⟨_, (pss_cons (ps_fldS (pv 0) (pv 1))
      (pss_cons (ps_fldS (pv 0) (pv 2))
      (pss_cons (ps_fldS (pv 0) (pv 3))
      (pss_cons (ps_fldS (pv 0) (pv 4))
      (pss_cons (ps_fldS (pv 0) (pv 5))
      (pss_one (ps_fldS (pv 0) (pv 6)))))))), ?_⟩
  refine ⟨_, rfl, _, rfl, x, C, dx, _, rfl, hx, cl, no _ (by decide), (by show (0 : Nat) < 1000; decide), fun H1 k1 h1 => ?_⟩
  have h1 : H1 x = some (.ins C dx [("number", a1)]) := by
    rw [h1]
    rfl
  refine ⟨_, rfl, _, rfl, x, C, dx, _, rfl, h1, cl, no _ (by decide), (by show (1 : Nat) < 1000; decide), fun H2 k2 h2 => ?_⟩
  have h2 : H2 x = some (.ins C dx [("number", a1), ("sort_name", a2)]) := by
    rw [h2]
    rfl
  refine ⟨_, rfl, _, rfl, x, C, dx, _, rfl, h2, cl, no _ (by decide), (by show (2 : Nat) < 1000; decide), fun H3 k3 h3 => ?_⟩
  have h3 : H3 x = some (.ins C dx [("number", a1), ("sort_name", a2), ("came", a3)]) := by
    rw [h3]
    rfl
  refine ⟨_, rfl, _, rfl, x, C, dx, _, rfl, h3, cl, no _ (by decide), (by show (3 : Nat) < 1000; decide), fun H4 k4 h4 => ?_⟩
  have h4 : H4 x = some (.ins C dx [("number", a1), ("sort_name", a2), ("came", a3), ("span", a4)]) := by
    rw [h4]
    rfl
  refine ⟨_, rfl, _, rfl, x, C, dx, _, rfl, h4, cl, no _ (by decide), (by show (4 : Nat) < 1000; decide), fun H5 k5 h5 => ?_⟩
  have h5 : H5 x = some (.ins C dx [("number", a1), ("sort_name", a2), ("came", a3), ("span", a4), ("tries", a5)]) := by
    rw [h5]
    rfl
  refine ⟨_, rfl, _, rfl, x, C, dx, _, rfl, h5, cl, no _ (by decide), (by show (5 : Nat) < 1000; decide), fun H6 k6 h6 => ?_⟩
  have h6 : H6 x = some (.ins C dx [("number", a1), ("sort_name", a2), ("came", a3), ("span", a4), ("tries", a5), ("spent", a6)]) := by
    rw [h6]
    rfl
  exact q H6 (k1.trans (k2.trans (k3.trans (k4.trans (k5.trans k6))))) h6
def spOpen (cs : CsA) (d : Wd) : Sp := fun vs H Q _ => ∃ (a : Addr) (p : Pv), vs = [.ref a] ∧ IsPc cs H a d p ∧ Q (.bl d.opn) H
def spNot (cs : CsA) : Sp := fun vs H Q _ => ∃ a : Addr, vs = [.ref a] ∧ Q (.bl false) H
def Pv.left (p : Pv) (d : Wd) : Int := if d.opn = true then p.tries * p.span - p.spent else 0
structure Pv.Ok (p : Pv) : Prop where
  s0 : 1 ≤ p.span
  s1 : p.span ≤ 4
  t1 : p.tries ≤ 3
  t0 : 0 ≤ p.tries
def spLeft (cs : CsA) : Sp := fun vs H Q _ => ∃ (a : Addr) (d : Wd) (p : Pv), vs = [.ref a] ∧ IsPc cs H a d p ∧ p.Ok ∧ Q (.int (p.left d)) H
theorem sc_Piece_is_open : FnScope ["self"] ["self"] (defScope s_Piece_is_open) := ⟨rfl, rfl, rfl, by decide +kernel, rfl, by decide +kernel, by decide +kernel⟩
theorem ok_Piece_is_open (D : Mfn K "is_open" "Piece.is_open" s_Piece_is_open ["self"] f fd) (T : Txt K mg c_WaitError c_NoWeight c_NoSorts c_NoSort c_Over c_Piece c_Held c_Waiting c_Done c_GivenUp c_CalledOff c_Missed c_Sort c_Sorts) : FnOk P w K mg base CX0 1 f fd ["self"] (spNot (CsA.mk c_Held c_Waiting c_Done c_GivenUp c_CalledOff c_Missed)) := by
  refine D.F.ok sc_Piece_is_open (fun vs H Q E h => ?_) (fun cdv A outer s H vs Q E hr h => ?_)
  · obtain ⟨a, rfl, _⟩ := h
    rfl
  obtain ⟨a, rfl, q⟩ := h
  exact ⟨_, (pss_one (ps_ret pe_bl)), q⟩
theorem sc_Held_is_open : FnScope ["self"] ["self"] (defScope s_Held_is_open) := ⟨rfl, rfl, rfl, by decide +kernel, rfl, by decide +kernel, by decide +kernel⟩
theorem ok_Held_is_open (D : Mfn K "is_open" "Held.is_open" s_Held_is_open ["self"] f fd) (T : Txt K mg c_WaitError c_NoWeight c_NoSorts c_NoSort c_Over c_Piece c_Held c_Waiting c_Done c_GivenUp c_CalledOff c_Missed c_Sort c_Sorts) : FnOk P w K mg base CX0 1 f fd ["self"] (spOpen (CsA.mk c_Held c_Waiting c_Done c_GivenUp c_CalledOff c_Missed) .held) := by
  refine D.F.ok sc_Held_is_open (fun vs H Q E h => ?_) (fun cdv A outer s H vs Q E hr h => ?_)
  · obtain ⟨a, p, rfl, _⟩ := h
    rfl
  obtain ⟨a, p, rfl, hp, q⟩ := h
  exact ⟨_, (pss_one (ps_ret pe_bl)), q⟩
theorem sc_Waiting_is_open : FnScope ["self"] ["self"] (defScope s_Waiting_is_open) := ⟨rfl, rfl, rfl, by decide +kernel, rfl, by decide +kernel, by decide +kernel⟩
theorem ok_Waiting_is_open (D : Mfn K "is_open" "Waiting.is_open" s_Waiting_is_open ["self"] f fd) (T : Txt K mg c_WaitError c_NoWeight c_NoSorts c_NoSort c_Over c_Piece c_Held c_Waiting c_Done c_GivenUp c_CalledOff c_Missed c_Sort c_Sorts) : FnOk P w K mg base CX0 1 f fd ["self"] (spOpen (CsA.mk c_Held c_Waiting c_Done c_GivenUp c_CalledOff c_Missed) .waiting) := by
  refine D.F.ok sc_Waiting_is_open (fun vs H Q E h => ?_) (fun cdv A outer s H vs Q E hr h => ?_)
  · obtain ⟨a, p, rfl, _⟩ := h
    rfl
  obtain ⟨a, p, rfl, hp, q⟩ := h
  exact ⟨_, (pss_one (ps_ret pe_bl)), q⟩
theorem sc_Piece_work_left : FnScope ["self"] ["self"] (defScope s_Piece_work_left) := ⟨rfl, rfl, rfl, by decide +kernel, rfl, by decide +kernel, by decide +kernel⟩
theorem ok_Piece_work_left (D : Mfn K "work_left" "Piece.work_left" s_Piece_work_left ["self"] f fd) (T : Txt K mg c_WaitError c_NoWeight c_NoSorts c_NoSort c_Over c_Piece c_Held c_Waiting c_Done c_GivenUp c_CalledOff c_Missed c_Sort c_Sorts) (M_is_open : ∀ d, MOk CX0 P w K mg base 1 (CsA.cl (CsA.mk c_Held c_Waiting c_Done c_GivenUp c_CalledOff c_Missed) d) "is_open" (spOpen (CsA.mk c_Held c_Waiting c_Done c_GivenUp c_CalledOff c_Missed) d)) : FnOk P w K mg base CX0 2 f fd ["self"] (spLeft (CsA.mk c_Held c_Waiting c_Done c_GivenUp c_CalledOff c_Missed)) := by
  refine D.F.ok sc_Piece_work_left (fun vs H Q E h => ?_) (fun cdv A outer s H vs Q E hr h => ?_)
  · obtain ⟨a, d, p, rfl, _⟩ := h
    rfl
  obtain ⟨a, d, p, rfl, ⟨dx, e⟩, ok, q⟩ := h
  refine ⟨_, (pss_one (ps_ret (pe_ifExp (pt_val (pe_mth0 (k := 1) (pv 0) (hr.mono (by decide)) pass0)) (pe_op op_sub (pe_op op_mul (pe_fld (pv 0) rfl) (pe_fld (pv 0) rfl)) (pe_fld (pv 0) rfl)) pe_int))), ?_⟩
  have S := six_of T
  refine ⟨_, rfl, a, _, dx, _, _, rfl, e, rfl, M_is_open d, a, p, rfl, ⟨dx, e⟩, ?_⟩
  unfold Pv.left at q
  cases ho : d.opn with
  | false =>
    rw [ho] at q
    exact ⟨_, rfl, iteF q⟩
  | true =>
    rw [ho] at q
    refine ⟨_, rfl, iteT ?_⟩
    refine ⟨_, rfl, a, _, dx, _, _, rfl, e, (S.ow d).cl, S.n5 d, rfl, _, rfl, a, _, dx, _, _, rfl, e, (S.ow d).cl, S.n4 d, rfl, _, _, rfl, rfl, .inl ⟨?_, ?_⟩, _, rfl, a, _, dx, _, _, rfl, e, (S.ow d).cl, S.n6 d, rfl, _, _, rfl, rfl, q⟩
    · have := ok.t0
      show (-2 ^ 64 : Int) < p.tries
      omega
    · have := ok.t1
      show p.tries < (2 ^ 64 : Int)
      omega
def NoInt (K : PySem.W.Frag) (H : Hp) (x : V) : Prop := ∃ t, TyOf K H x t ∧ (PySem.W.kitOne K t (.type "bool") = some true ∨ (PySem.W.kitOne K t (.type "bool") = some false ∧ PySem.W.kitOne K t (.type "int") = some false))
theorem NoInt.same {H H' : Hp} {x : V} (s : Same H H') (h : NoInt K H x) : NoInt K H' x := let ⟨t, ty, k⟩ := h; ⟨t, ty.same s, k⟩
def NoTy (K : PySem.W.Frag) (H : Hp) (n : String) (x : V) : Prop := ∃ t, TyOf K H x t ∧ PySem.W.kitOne K t (.type n) = some false
theorem NoTy.same {H H' : Hp} {n : String} {x : V} (s : Same H H') (h : NoTy K H n x) : NoTy K H' n x := let ⟨t, ty, k⟩ := h; ⟨t, ty.same s, k⟩
def betw (a b : Nat) (c : Nat) : Bool := decide (a ≤ c) && decide (c ≤ b)
def spBetw : Sp := fun vs H Q _ => ∃ (x y z : Str) (a b : Nat), vs = [.str x, .str y, .str z] ∧ y.cps.toList = [a] ∧ z.cps.toList = [b] ∧ x.length ≤ 100 ∧ ∀ H', Same H H' → Q (.bl (x.cps.toList.all (betw a b))) H'
def nameL (cs : List Nat) : Bool := decide (1 ≤ cs.length ∧ cs.length ≤ 8) && cs.all (betw 97 122)
theorem ca : (Str.ofString "a").cps.toList = [97] := by decide +kernel
theorem cz : (Str.ofString "z").cps.toList = [122] := by decide +kernel
def WhB (K : PySem.W.Frag) (H : Hp) (x : V) (lo hi : Int) (b : Bool) : Prop := (∃ i, x = .int i ∧ b = (decide (lo ≤ i) && decide (i ≤ hi))) ∨ (NoInt K H x ∧ b = false)
theorem WhB.same {H H' : Hp} {x : V} {lo hi : Int} {b : Bool} (s : Same H H') (h : WhB K H x lo hi b) : WhB K H' x lo hi b := h.imp id fun ⟨n, e⟩ => ⟨n.same s, e⟩
def spIsWhole (K : PySem.W.Frag) : Sp := fun vs H Q _ => ∃ (x : V) (lo hi : Int) (b : Bool), vs = [x, .int lo, .int hi] ∧ WhB K H x lo hi b ∧ Q (.bl b) H
def NmB (K : PySem.W.Frag) (H : Hp) (x : V) (b : Bool) : Prop := (∃ z : Str, x = .str z ∧ z.length ≤ 100 ∧ b = nameL z.cps.toList) ∨ (NoTy K H "str" x ∧ b = false)
theorem NmB.same {H H' : Hp} {x : V} {b : Bool} (s : Same H H') (h : NmB K H x b) : NmB K H' x b := h.imp id fun ⟨n, e⟩ => ⟨n.same s, e⟩
def spName (K : PySem.W.Frag) : Sp := fun vs H Q _ => ∃ (x : V) (b : Bool), vs = [x] ∧ NmB K H x b ∧ ∀ H', Same H H' → Q (.bl b) H'
def WtB (K : PySem.W.Frag) (H : Hp) (x : V) (b : Bool) : Prop := (∃ p t u b1 b2, x = .ref p ∧ H p = some (.tup [t, u]) ∧ WhB K H t 0 1000000 b1 ∧ WhB K H u 1 12 b2 ∧ b = (b1 && b2)) ∨ (b = false ∧ ((∃ p xs, x = .ref p ∧ H p = some (.tup xs) ∧ xs.length ≠ 2) ∨ NoTy K H "tuple" x))
theorem WtB.same {H H' : Hp} {x : V} {b : Bool} (s : Same H H') (h : WtB K H x b) : WtB K H' x b := by
  rcases h with ⟨p, t, u, b1, b2, e, h1, h2, h3, h4⟩ | ⟨e, ⟨p, xs, e1, h1, h2⟩ | h⟩
  · exact .inl ⟨p, t, u, b1, b2, e, s _ _ h1, h2.same s, h3.same s, h4⟩
  · exact .inr ⟨e, .inl ⟨p, xs, e1, s _ _ h1, h2⟩⟩
  · exact .inr ⟨e, .inr (h.same s)⟩
def spIsW (K : PySem.W.Frag) : Sp := fun vs H Q _ => ∃ (x : V) (b : Bool), vs = [x] ∧ WtB K H x b ∧ Q (.bl b) H
def RwB (K : PySem.W.Frag) (H : Hp) (x : V) (b : Bool) : Prop :=
  (∃ p a1 a2 a3 a4 a5 b1 b2 b3 b4 b5, x = .ref p ∧ H p = some (.tup [a1, a2, a3, a4, a5]) ∧ NmB K H a1 b1 ∧ WtB K H a2 b2 ∧ WtB K H a3 b3 ∧ WhB K H a4 1 4 b4 ∧ WhB K H a5 1 3 b5 ∧ b = (b1 && (b2 && (b3 && (b4 && b5))))) ∨
  (b = false ∧ ((∃ p xs, x = .ref p ∧ H p = some (.tup xs) ∧ xs.length ≠ 5) ∨ NoTy K H "tuple" x))
theorem RwB.same {H H' : Hp} {x : V} {b : Bool} (s : Same H H') (h : RwB K H x b) : RwB K H' x b := by
  rcases h with ⟨p, a1, a2, a3, a4, a5, b1, b2, b3, b4, b5, e, h1, h2, h3, h4, h5, h6, h7⟩ | ⟨e, ⟨p, xs, e1, h1, h2⟩ | h⟩
  · exact .inl ⟨p, a1, a2, a3, a4, a5, b1, b2, b3, b4, b5, e, s _ _ h1, h2.same s, h3.same s, h4.same s, h5.same s, h6.same s, h7⟩
  · exact .inr ⟨e, .inl ⟨p, xs, e1, s _ _ h1, h2⟩⟩
  · exact .inr ⟨e, .inr (h.same s)⟩
def spIsRow (K : PySem.W.Frag) : Sp := fun vs H Q _ => ∃ (x : V) (b : Bool), vs = [x] ∧ RwB K H x b ∧ ∀ H', Same H H' → Q (.bl b) H'
/-! ### rows of sorts -/
structure SR where
  nm : Str
  a : Int
  b : Int
  c : Int
  d : Int
  sp : Int
  tr : Int
structure SR.Ok (r : SR) : Prop where
  nm : nameL r.nm.cps.toList = true
  nl : r.nm.length ≤ 100
  a0 : 0 ≤ r.a
  a1 : r.a ≤ 1000000
  b0 : 1 ≤ r.b
  b1 : r.b ≤ 12
  c0 : 0 ≤ r.c
  c1 : r.c ≤ 1000000
  d0 : 1 ≤ r.d
  d1 : r.d ≤ 12
  s0 : 1 ≤ r.sp
  s1 : r.sp ≤ 4
  t0 : 1 ≤ r.tr
  t1 : r.tr ≤ 3
def IsSR (H : Hp) (p : Addr) (r : SR) : Prop := ∃ pw ps, H p = some (.tup [.str r.nm, .ref pw, .ref ps, .int r.sp, .int r.tr]) ∧ H pw = some (.tup [.int r.a, .int r.b]) ∧ H ps = some (.tup [.int r.c, .int r.d])
theorem IsSR.same {H H' : Hp} {p : Addr} {r : SR} (s : Same H H') (h : IsSR H p r) : IsSR H' p r := let ⟨pw, ps, a, b, c⟩ := h; ⟨pw, ps, s _ _ a, s _ _ b, s _ _ c⟩
theorem IsSR.but {H H' : Hp} {p q : Addr} {r : SR} {o : HO} (s : But q H H') (hq : H q = some o) (nt : ∀ xs, o ≠ .tup xs) (h : IsSR H p r) : IsSR H' p r := by
  obtain ⟨pw, ps, a, b, c⟩ := h
  have ne : ∀ {z xs}, H z = some (.tup xs) → z ≠ q := fun e z => by rw [z, hq] at e; exact nt _ (Option.some.inj e)
  exact ⟨pw, ps, s _ _ (ne a) a, s _ _ (ne b) b, s _ _ (ne c) c⟩
structure IsSRs (H : Hp) (l : Addr) (xs : List (Addr × SR)) : Prop where
  at_ : H l = some (.lst (xs.map fun q => V.ref q.1))
  sr : ∀ q, q ∈ xs → IsSR H q.1 q.2
theorem IsSRs.same {H H' : Hp} {l : Addr} {xs : List (Addr × SR)} (s : Same H H') (h : IsSRs H l xs) : IsSRs H' l xs := ⟨s _ _ h.at_, fun q hq => (h.sr q hq).same s⟩
theorem IsSRs.but {H H' : Hp} {l q : Addr} {xs : List (Addr × SR)} {o : HO} (s : But q H H') (hq : H q = some o) (nt : ∀ xs, o ≠ .tup xs) (ne : l ≠ q) (h : IsSRs H l xs) : IsSRs H' l xs := ⟨s _ _ ne h.at_, fun z hz => (h.sr z hz).but s hq nt⟩
def SR.low (r : SR) : SR := { r with a := r.a / M1.gd r.a r.b, b := r.b / M1.gd r.a r.b, c := r.c / M1.gd r.c r.d, d := r.d / M1.gd r.c r.d }
theorem low_top {t b : Int} (h0 : 0 ≤ t) (h1 : t ≤ 1000000) (hb : 1 ≤ b) : 0 ≤ t / M1.gd t b ∧ t / M1.gd t b ≤ 1000000 := by
  have g := M1.gd_pos (x := t) (show 0 < b by omega)
  have a := Int.ediv_nonneg h0 (show 0 ≤ M1.gd t b by omega)
  have b := Int.ediv_le_self (M1.gd t b) h0
  omega
theorem SR.Ok.low {r : SR} (h : r.Ok) : r.low.Ok where
  nm := h.nm
  nl := h.nl
  a0 := (low_top h.a0 h.a1 h.b0).1
  a1 := (low_top h.a0 h.a1 h.b0).2
  b0 := M1.low_bot (show 0 < r.b from h.b0)
  b1 := Int.le_trans (M1.low_bot_le (show 0 < r.b from h.b0)) h.b1
  c0 := (low_top h.c0 h.c1 h.d0).1
  c1 := (low_top h.c0 h.c1 h.d0).2
  d0 := M1.low_bot (show 0 < r.d from h.d0)
  d1 := Int.le_trans (M1.low_bot_le (show 0 < r.d from h.d0)) h.d1
  s0 := h.s0
  s1 := h.s1
  t0 := h.t0
  t1 := h.t1
theorem SR.Ok.low2 {r : SR} (h : r.Ok) : r.low.low = r.low := by
  have e1 := M1.low_one (M1.gd_low (t := r.a) (show 0 < r.b from h.b0))
  have e2 := M1.low_one (M1.gd_low (t := r.c) (show 0 < r.d from h.d0))
  show ({ r with a := _, b := _, c := _, d := _ } : SR) = { r with a := _, b := _, c := _, d := _ }
  simp only [SR.mk.injEq]
  exact ⟨trivial, e1.1, e1.2, e2.1, e2.2, trivial, trivial⟩
theorem SR.Ok.wh {lo hi i : Int} {H : Hp} (a : lo ≤ i) (b : i ≤ hi) : WhB K H (.int i) lo hi true := .inl ⟨i, rfl, by rw [decide_eq_true a, decide_eq_true b]; rfl⟩
theorem IsSR.rw {H : Hp} {p : Addr} {r : SR} (h : IsSR H p r) (ok : r.Ok) : RwB K H (.ref p) true := by
  obtain ⟨pw, ps, a, b, c⟩ := h
  exact .inl ⟨p, _, _, _, _, _, true, true, true, true, true, rfl, a, .inl ⟨_, rfl, ok.nl, ok.nm.symm⟩, .inl ⟨pw, _, _, true, true, rfl, b, SR.Ok.wh ok.a0 ok.a1, SR.Ok.wh ok.b0 ok.b1, rfl⟩,
    .inl ⟨ps, _, _, true, true, rfl, c, SR.Ok.wh ok.c0 ok.c1, SR.Ok.wh ok.d0 ok.d1, rfl⟩, SR.Ok.wh ok.s0 ok.s1, SR.Ok.wh ok.t0 ok.t1, rfl⟩
structure RsOk (rs : List SR) : Prop where
  l0 : 1 ≤ rs.length
  l1 : rs.length ≤ 8
  ok : ∀ r, r ∈ rs → r.Ok
  nd : ∀ (i j : Nat) r s, rs[i]? = some r → rs[j]? = some s → r.nm = s.nm → i = j
def RsB (K : PySem.W.Frag) (H : Hp) (x : V) (b : Bool) : Prop :=
  (∃ l xs, x = .ref l ∧ IsSRs H l xs ∧ RsOk (xs.map (·.2)) ∧ b = true) ∨
  (b = false ∧ ((∃ l xs, x = .ref l ∧ H l = some (.lst xs) ∧ ¬ (1 ≤ xs.length ∧ xs.length ≤ 8)) ∨
    (∃ l xs, x = .ref l ∧ H l = some (.lst xs) ∧ xs.length ≤ 8 ∧ (∀ (i : Nat) v, xs[i]? = some v → ∃ c, RwB K H v c) ∧ ∃ (i : Nat) (v : V), xs[i]? = some v ∧ RwB K H v false) ∨
    (∃ l xs, x = .ref l ∧ IsSRs H l xs ∧ xs.length ≤ 8 ∧ (∀ q, q ∈ xs → q.2.Ok) ∧ ∃ (i j : Nat) (q p : Addr × SR), i < j ∧ xs[i]? = some q ∧ xs[j]? = some p ∧ q.2.nm = p.2.nm) ∨ NoTy K H "list" x))
def spAreRows (K : PySem.W.Frag) : Sp := fun vs H Q _ => ∃ (x : V) (b : Bool), vs = [x] ∧ RsB K H x b ∧ ∀ H', Same H H' → Q (.bl b) H'
def spDiv : Sp := fun vs H Q _ => ∃ x y : Int, vs = [.int x, .int y] ∧ 0 ≤ x ∧ 0 ≤ y ∧ Q (.int (M1.gd x y)) H
def spLowest : Sp := fun vs H Q _ => ∃ t b : Int, vs = [.int t, .int b] ∧ 0 < b ∧ b < 1000000000000000000000000000000000000000000000000000000000000 ∧
  ∀ p H', Same H H' → H' p = some (.tup [.int (t / M1.gd t b), .int (b / M1.gd t b)]) → Q (.ref p) H'
def spInLow : Sp := fun vs H Q _ => ∃ (q : Addr) (t b : Int), vs = [.ref q] ∧ H q = some (.tup [.int t, .int b]) ∧ 1 ≤ b ∧ b ≤ 12 ∧ ∀ p H', Same H H' → H' p = some (.tup [.int (t / M1.gd t b), .int (b / M1.gd t b)]) → Q (.ref p) H'
def soF (nm : Str) (pw ps : Addr) (sp tr : Int) : List (Str × V) := [("name", .str nm), ("weight", .ref pw), ("speed", .ref ps), ("span", .int sp), ("tries", .int tr)]
def soN : List Str := ["name", "weight", "speed", "span", "tries"]
def IsSo (cs : Addr) (H : Hp) (a : Addr) (r : SR) : Prop := ∃ dx pw ps, H a = some (.ins cs dx (soF r.nm pw ps r.sp r.tr)) ∧ H pw = some (.tup [.int r.a, .int r.b]) ∧ H ps = some (.tup [.int r.c, .int r.d])
def spSoInit (K : PySem.W.Frag) : Sp := fun vs H Q _ => ∃ (x C dx pw ps : Addr) (r : SR), vs = [.ref x, .str r.nm, .ref pw, .ref ps, .int r.sp, .int r.tr] ∧ H x = some (.ins C dx []) ∧ Cls K C ∧ (∀ f, f ∈ soN → NoAttr K C f) ∧
  H pw = some (.tup [.int r.a, .int r.b]) ∧ H ps = some (.tup [.int r.c, .int r.d]) ∧ r.Ok ∧
  ∀ H' pw' ps', But x H H' → H' x = some (.ins C dx (soF r.nm pw' ps' r.sp r.tr)) → H' pw' = some (.tup [.int r.low.a, .int r.low.b]) → H' ps' = some (.tup [.int r.low.c, .int r.low.d]) → Q .non H'
def spSoMk (cs : Addr) : Sp := fun vs H Q _ => ∃ (pw ps : Addr) (r : SR), vs = [.str r.nm, .ref pw, .ref ps, .int r.sp, .int r.tr] ∧ H pw = some (.tup [.int r.a, .int r.b]) ∧ H ps = some (.tup [.int r.c, .int r.d]) ∧ r.Ok ∧
  ∀ a H', Same H H' → IsSo cs H' a r.low → Q (.ref a) H'
theorem so_imp {cs : Addr} (cl : Cls K cs) (no : ∀ f, f ∈ soN → NoAttr K cs f) : ∀ vs H Q E, spSoMk cs vs H Q E → ∀ y dx, H y = none → H dx = none → dx ≠ y → spSoInit K (.ref y :: vs) (upd (upd H dx (.own y)) y (.ins cs dx [])) (fun v H2 => v = .non ∧ Q (.ref y) H2) E := by
  rintro vs H Q E ⟨pw, ps, r, rfl, h1, h2, ok, q⟩ y dx ny nd ne
  have up : ∀ {z o}, H z = some o → (upd (upd H dx (.own y)) y (.ins cs dx [])) z = some o := fun {z o} h => by
    rw [upd_ne (ne_of_none h ny), upd_ne (ne_of_none h nd)]
    exact h
  refine ⟨y, cs, dx, pw, ps, r, rfl, upd_same, cl, no, up h1, up h2, ok, fun H' pw' ps' k a b c => ⟨rfl, q y H' (fun z o hz => k z o (ne_of_none hz ny) (up hz)) ⟨dx, pw', ps', a, b, c⟩⟩⟩
def spAsRow (cs : Addr) : Sp := fun vs H Q _ => ∃ (a : Addr) (r : SR), vs = [.ref a] ∧ IsSo cs H a r ∧ ∀ p H', Same H H' → IsSR H' p r → Q (.ref p) H'
def spFrom (cs : Addr) : Sp := fun vs H Q _ => ∃ (p : Addr) (r : SR), vs = [.ref p] ∧ IsSR H p r ∧ r.Ok ∧ ∀ a H', Same H H' → IsSo cs H' a r.low → Q (.ref a) H'
def Bare (H : Hp) (a C : Addr) : Prop := ∃ ws, H a = some (XcO a C none ws)
theorem raise_bare {H H1 : Hp} {C : Addr} {E : XK} (s0 : Same H H1) (hE : ∀ a H', Same H H' → Bare H' a C → E (.ref C) (some a) H') :
    ∀ a ws H2, Same H1 H2 → H1 a = none → ws[1]? = some Value.none → H2 a = some (XcO a C none ws) →
      ∃ a' dx vs, V.ref a = .ref a' ∧ H2 a' = some (XcO a' C dx vs) ∧ vs[1]? = some Value.none ∧ (∀ y, dx = some y → ∃ fs, H2 y = some (.xd fs)) ∧ ∀ vs', E (.ref C) (some a') (upd H2 a' (XcO a' C dx vs')) := by
  intro a ws H2 s1 n1 u1 e1
  refine ⟨a, none, ws, rfl, e1, u1, (fun y q => by cases q), fun vs' => hE a _ (fun b o q => ?_) ⟨vs', upd_same⟩⟩
  rw [upd_ne (ne_of_none (s0 b o q) n1)]
  exact s1 b o (s0 b o q)
def IsSt (ct : Addr) (H : Hp) (a : Addr) (rs : List SR) : Prop := ∃ dx l xs, H a = some (.ins ct dx [("rows", .ref l)]) ∧ IsSRs H l xs ∧ xs.map (·.2) = rs
theorem IsSt.same {ct : Addr} {H H' : Hp} {a : Addr} {rs : List SR} (s : Same H H') (h : IsSt ct H a rs) : IsSt ct H' a rs := let ⟨dx, l, xs, x, y, z⟩ := h; ⟨dx, l, xs, s _ _ x, y.same s, z⟩
theorem RsB.same {H H' : Hp} {z : V} {b : Bool} (up : Same H H') (h1 : RsB K H z b) : RsB K H' z b := by
  rcases h1 with ⟨l, xs, e, g, k, eb⟩ | ⟨eb, ⟨l, xs, e, g, k⟩ | ⟨l, xs, e, g, k, m, n⟩ | ⟨l, xs, e, g, k, m, n⟩ | n⟩
  · exact .inl ⟨l, xs, e, g.same up, k, eb⟩
  · exact .inr ⟨eb, .inl ⟨l, xs, e, up _ _ g, k⟩⟩
  · obtain ⟨i, v, i1, i2⟩ := n
    exact .inr ⟨eb, .inr (.inl ⟨l, xs, e, up _ _ g, k, fun i v hv => let ⟨c, hc⟩ := m i v hv; ⟨c, hc.same up⟩, i, v, i1, i2.same up⟩)⟩
  · exact .inr ⟨eb, .inr (.inr (.inl ⟨l, xs, e, g.same up, k, m, n⟩))⟩
  · exact .inr ⟨eb, .inr (.inr (.inr (n.same up)))⟩
def spStInit (K : PySem.W.Frag) (cN : Addr) : Sp := fun vs H Q E => ∃ (x C dx : Addr) (y : V), vs = [.ref x, y] ∧ H x = some (.ins C dx []) ∧ Cls K C ∧ NoAttr K C "rows" ∧
  ((∃ l xs, y = .ref l ∧ IsSRs H l xs ∧ RsOk (xs.map (·.2)) ∧ ∀ H' m ys, But x H H' → H' x = some (.ins C dx [("rows", .ref m)]) → IsSRs H' m ys → ys.map (·.2) = xs.map (·.2.low) → Q .non H') ∨
   (RsB K H y false ∧ ∀ a H', Same H H' → Bare H' a cN → E (.ref cN) (some a) H'))
def spStMk (K : PySem.W.Frag) (ct cN : Addr) : Sp := fun vs H Q E => ∃ (y : V), vs = [y] ∧
  ((∃ l xs, y = .ref l ∧ IsSRs H l xs ∧ RsOk (xs.map (·.2)) ∧ ∀ a H', Same H H' → IsSt ct H' a (xs.map (·.2.low)) → Q (.ref a) H') ∨
   (RsB K H y false ∧ ∀ a H', Same H H' → Bare H' a cN → E (.ref cN) (some a) H'))
theorem st_imp {ct cN : Addr} (cl : Cls K ct) (no : NoAttr K ct "rows") : ∀ vs H Q E, spStMk K ct cN vs H Q E → ∀ y dx, H y = none → H dx = none → dx ≠ y → spStInit K cN (.ref y :: vs) (upd (upd H dx (.own y)) y (.ins ct dx [])) (fun v H2 => v = .non ∧ Q (.ref y) H2) E := by
  rintro vs H Q E ⟨z, rfl, h⟩ y dx ny nd ne
  have up : Same H (upd (upd H dx (.own y)) y (.ins ct dx [])) := fun z o h => by
    rw [upd_ne (ne_of_none h ny), upd_ne (ne_of_none h nd)]
    exact h
  refine ⟨y, ct, dx, z, rfl, upd_same, cl, no, ?_⟩
  rcases h with ⟨l, xs, e, g, k, q⟩ | ⟨hb, q⟩
  · exact .inl ⟨l, xs, e, g.same up, k, fun H' m ys bt hy hm em => ⟨rfl, q y H' (fun w o hw => bt w o (ne_of_none hw ny) (up w o hw)) ⟨dx, m, ys, hy, hm, em⟩⟩⟩
  · exact .inr ⟨hb.same up, fun a H' s' hB => q a H' (up.trans s') hB⟩
def NoNm (K : PySem.W.Frag) (H : Hp) (rs : List SR) (x : V) : Prop := (∃ z, x = .str z ∧ ∀ r, r ∈ rs → r.nm ≠ z) ∨ (x = .non ∨ (∃ b, x = .bl b) ∨ ∃ i, x = .int i) ∨ ∃ (p : Addr) (o : HO), x = .ref p ∧ H p = some o ∧ ((∃ xs, o = .tup xs) ∨ (∃ xs, o = .lst xs) ∨ ∃ kvs, o = .dK kvs)
def spSortOf (K : PySem.W.Frag) (cs ct cN : Addr) : Sp := fun vs H Q E => ∃ (a : Addr) (rs : List SR) (x : V), vs = [.ref a, x] ∧ IsSt ct H a rs ∧ rs.length ≤ 8 ∧ (∀ r, r ∈ rs → r.Ok) ∧
  ((∃ r, r ∈ rs ∧ x = .str r.nm ∧ (∀ s, s ∈ rs → s.nm = r.nm → s = r) ∧ ∀ b H', Same H H' → IsSo cs H' b r.low → Q (.ref b) H') ∨
   (NoNm K H rs x ∧ ∀ b H', Same H H' → Told K H' b cN "name" x → E (.ref cN) (some b) H'))
theorem NoNm.eqS {H : Hp} {rs : List SR} {x : V} {r : SR} {Q : VK} (h : NoNm K H rs x) (m : r ∈ rs) (q : Q (.bl false) H) : rEqS (.str r.nm) x H Q := by
  refine ⟨_, rfl, ?_⟩
  rcases h with ⟨z, rfl, h⟩ | (rfl | ⟨b, rfl⟩ | ⟨i, rfl⟩) | ⟨p, o, e, ho, k⟩
  · refine .inl ⟨z, rfl, ?_⟩
    rw [decide_eq_false (h r m)]
    exact q
  · exact .inr (.inl ⟨rfl, q⟩)
  · exact .inr (.inr (.inl ⟨b, rfl, q⟩))
  · exact .inr (.inr (.inr (.inl ⟨i, rfl, q⟩)))
  · exact .inr (.inr (.inr (.inr ⟨p, o, e, ho, k, q⟩)))
def spSpeed (K : PySem.W.Frag) (ct cN cW : Addr) : Sp := fun vs H Q E => ∃ (a : Addr) (rs : List SR) (x y : V), vs = [.ref a, x, y] ∧ IsSt ct H a rs ∧ RsOk rs ∧ (∀ r, r ∈ rs → r.low = r) ∧
  ((∃ (i : Nat) (r : SR), rs[i]? = some r ∧ x = .str r.nm ∧
     ((∃ (p : Addr) (c d : Int), y = .ref p ∧ H p = some (.tup [.int c, .int d]) ∧ 0 ≤ c ∧ c ≤ 1000000 ∧ 1 ≤ d ∧ d ≤ 12 ∧ ∀ b H', Same H H' → IsSt ct H' b ((rs.set i { r with c := c, d := d }).map SR.low) → Q (.ref b) H') ∨
      (WtB K H y false ∧ ∀ b H', Same H H' → Bare H' b cW → E (.ref cW) (some b) H'))) ∨
   (NoNm K H rs x ∧ ∀ b H', Same H H' → Told K H' b cN "name" x → E (.ref cN) (some b) H'))
theorem sc_is_whole : FnScope ["thing", "low", "high"] ["thing", "low", "high"] (defScope s_is_whole) := ⟨rfl, rfl, rfl, by decide +kernel, rfl, by decide +kernel, by decide +kernel⟩
theorem ok_is_whole (D : Dfn K mg "is_whole" s_is_whole ["thing", "low", "high"] f fd) (T : Txt K mg c_WaitError c_NoWeight c_NoSorts c_NoSort c_Over c_Piece c_Held c_Waiting c_Done c_GivenUp c_CalledOff c_Missed c_Sort c_Sorts) : Cal P w K mg base "is_whole" 1 ["thing", "low", "high"] (spIsWhole K) := by
  refine D.cal (D.F.ok sc_is_whole (fun vs H Q E h => ?_) (fun cdv A outer s H vs Q E hr h => ?_))
  · obtain ⟨x, lo, hi, b, rfl, _⟩ := h
    rfl
  obtain ⟨x, lo, hi, b, rfl, h, q⟩ := h
  refine ⟨_, (pss_cons (ps_if (PW.pt (pw_or (pt_val (pe_callB (call_isYT (n := "bool")) rfl T.b_isinstance bt_isinstance (pa_cons (pv 0) (pa_cons (pe_bltn (v := .ty "bool") rfl T.b_bool bt_bool rfl) pa_nil)))) (pw_or1 (pt_not (pt_val (pe_callB (call_isYT (n := "int")) rfl T.b_isinstance bt_isinstance (pa_cons (pv 0) (pa_cons (pe_bltn (v := .ty "int") rfl T.b_int bt_int rfl) pa_nil)))))))) (pss_one (ps_ret pe_bl)) pss_nil)
      (pss_one (ps_ret (pe_chain op_le op_le (pv 1) (pv 0) (pv 2))))), ?_⟩
  rcases h with ⟨i, rfl, rfl⟩ | ⟨⟨t, ty, hk | ⟨hk, hi2⟩⟩, rfl⟩
  · refine ⟨_, rfl, _, _, _, rfl, .old (.int i), T.q_int_bool, _, rfl, iteF ?_⟩
    refine ⟨_, rfl, _, _, _, rfl, .old (.int i), T.q_int_int, _, rfl, iteF ?_⟩
    refine ⟨_, rfl, _, rfl, _, _, rfl, rfl, _, rfl, ?_⟩
    refine ite2 (fun c => ?_) (fun c => ?_)
    · rw [c, Bool.true_and] at q
      exact ⟨_, rfl, _, _, rfl, rfl, q⟩
    · rw [Bool.eq_false_iff.mpr c, Bool.false_and] at q
      exact q
  · refine ⟨_, rfl, _, _, _, rfl, .old ty, hk, _, rfl, iteT (iteT ?_)⟩
    exact q
  · refine ⟨_, rfl, _, _, _, rfl, .old ty, hk, _, rfl, iteF ?_⟩
    refine ⟨_, rfl, _, _, _, rfl, .old ty, hi2, _, rfl, iteT ?_⟩
    exact q
theorem sc_all_between : FnScope ["text", "first", "last"] ["text", "first", "last"] (defScope s_all_between) := ⟨rfl, rfl, rfl, by decide +kernel, rfl, by decide +kernel, by decide +kernel⟩
theorem ok_all_between (D : Dfn K mg "all_between" s_all_between ["text", "first", "last"] f fd) (T : Txt K mg c_WaitError c_NoWeight c_NoSorts c_NoSort c_Over c_Piece c_Held c_Waiting c_Done c_GivenUp c_CalledOff c_Missed c_Sort c_Sorts) : Cal P w K mg base "all_between" 1 ["text", "first", "last"] spBetw := by
  refine D.cal (D.F.ok sc_all_between (fun vs H Q E h => ?_) (fun cdv A outer s H vs Q E hr h => ?_))
  · obtain ⟨x, y, z, a, b, rfl, _⟩ := h
    rfl
  obtain ⟨x, y, z, a, b, rfl, hy, hz, hl, q⟩ := h
  refine ⟨_, (pss_one (ps_ret (pe_callB (call_allB rfl) rfl T.b_all bt_all (pa_cons (pe_comp (N := ["sign", "first", "last"]) (js := [1, 2]) rfl (CompScope.of rfl rfl rfl rfl rfl (by decide +kernel) rfl rfl rfl rfl) (pi_str (pv 0)) (fun _ _ _ _ _ => ct_nil) (fun _ _ _ _ _ => (pe_chain op_le_str op_le_str (pv 1) (pv 0) (pv 2)))) pa_nil)))), ?_⟩
  refine ⟨_, rfl, x, rfl, comp_str (x := x) (fun _ => true) (fun c => .bl (betw a b c)) (fun c Hh Q' q' => q') (fun c Hh Q' q' => ?_) (small1000 (by omega)) (fun D H2 s2 hD => ?_)⟩
  · refine ⟨_, rfl, _, rfl, _, _, rfl, rfl, _, rfl, ?_⟩
    have e1 := le_1 (x := y) (y := ⟨#[c]⟩) (c := a) (a := c) hy rfl
    have e2 := le_1 (x := ⟨#[c]⟩) (y := z) (c := c) (a := b) rfl hz
    unfold betw at q'
    rw [← e1, ← e2] at q'
    refine ite2 (fun d => ?_) (fun d => ?_)
    · rw [d, Bool.true_and] at q'
      exact ⟨_, rfl, _, _, rfl, rfl, q'⟩
    · rw [Bool.eq_false_iff.mpr d, Bool.false_and] at q'
      exact q'
  · have e : (x.cps.toList.filter fun _ => true) = x.cps.toList := List.filter_eq_self.mpr fun _ _ => rfl
    rw [e] at hD
    refine ⟨D, x.cps.toList.map (betw a b), rfl, SqL.of (by rw [List.map_map]; exact hD), ?_⟩
    rw [List.all_map]
    exact q H2 s2
theorem sc_is_name : FnScope ["thing"] ["thing"] (defScope s_is_name) := ⟨rfl, rfl, rfl, by decide +kernel, rfl, by decide +kernel, by decide +kernel⟩
theorem ok_is_name (D : Dfn K mg "is_name" s_is_name ["thing"] f fd) (T : Txt K mg c_WaitError c_NoWeight c_NoSorts c_NoSort c_Over c_Piece c_Held c_Waiting c_Done c_GivenUp c_CalledOff c_Missed c_Sort c_Sorts) (C_all_between : Cal P w K mg base "all_between" 1 ["text", "first", "last"] spBetw) : Cal P w K mg base "is_name" 2 ["thing"] (spName K) := by
  refine D.cal (D.F.ok sc_is_name (fun vs H Q E h => ?_) (fun cdv A outer s H vs Q E hr h => ?_))
  · obtain ⟨x, b, rfl, _⟩ := h
    rfl
  obtain ⟨x, b, rfl, h, q⟩ := h
  refine ⟨_, (pss_cons (ps_if (pt_not (pt_val (pe_callB (call_isYT (n := "str")) rfl T.b_isinstance bt_isinstance (pa_cons (pv 0) (pa_cons (pe_bltn (v := .ty "str") rfl T.b_str bt_str rfl) pa_nil))))) (pss_one (ps_ret pe_bl)) pss_nil)
      (pss_one (ps_ret (pe_and (pe_chain op_le op_le pe_int (pe_callB call_len_str rfl T.b_len bt_len (pa_cons (pv 0) pa_nil)) (pe_glob (v := .int 8) rfl T.g_LONGEST_NAME.choose_spec ⟨_, rfl⟩)) (pe_one (pe_cal C_all_between (hr.mono (by decide)) rfl (pa_cons (pv 0) (pa_cons pe_str (pa_cons pe_str pa_nil))))))))), ?_⟩
  rcases h with ⟨z, rfl, hl, rfl⟩ | ⟨⟨t, ty, hk⟩, rfl⟩
  · refine ⟨_, rfl, _, _, _, rfl, .old (.str z), T.q_str_str, _, rfl, iteF ?_⟩
    refine ⟨_, rfl, z, rfl, big100 (by omega), _, _, rfl, rfl, _, rfl, ?_⟩
    unfold nameL at q
    rw [len_cps] at q
    refine ite2 (fun c => ?_) (fun c => ?_)
    · have c' : (1 : Int) ≤ (z.length : Int) := of_decide_eq_true c
      refine ⟨_, _, rfl, rfl, _, rfl, ?_⟩
      refine ite2 (fun d => ?_) (fun d => ?_)
      · have d' : (z.length : Int) ≤ 8 := of_decide_eq_true d
        rw [decide_eq_true (by omega), Bool.true_and] at q
        exact ⟨_, rfl, z, _, _, 97, 122, rfl, ca, cz, hl, fun H' s' => q H' s'⟩
      · have d' : ¬ (z.length : Int) ≤ 8 := of_decide_eq_false (Bool.eq_false_iff.mpr d)
        rw [decide_eq_false (by omega), Bool.false_and] at q
        exact q H (Same.refl H)
    · have c' : ¬ (1 : Int) ≤ (z.length : Int) := of_decide_eq_false (Bool.eq_false_iff.mpr c)
      rw [decide_eq_false (by omega), Bool.false_and] at q
      exact ⟨_, rfl, iteF (q H (Same.refl H))⟩
  · refine ⟨_, rfl, _, _, _, rfl, .old ty, hk, _, rfl, iteT ?_⟩
    exact q H (Same.refl H)
theorem sc_common_divisor : FnScope ["one", "other", "rest"] ["one", "other"] (defScope s_common_divisor) := ⟨rfl, rfl, rfl, by decide +kernel, rfl, by decide +kernel, by decide +kernel⟩
theorem ok_common_divisor (D : Dfn K mg "common_divisor" s_common_divisor ["one", "other"] f fd) (T : Txt K mg c_WaitError c_NoWeight c_NoSorts c_NoSort c_Over c_Piece c_Held c_Waiting c_Done c_GivenUp c_CalledOff c_Missed c_Sort c_Sorts) : Cal P w K mg base "common_divisor" 1 ["one", "other"] spDiv := by
  refine D.cal (D.F.ok sc_common_divisor (fun vs H Q E h => ?_) (fun cdv A outer s H vs Q E hr h => ?_))
  · obtain ⟨x, y, rfl, _⟩ := h
    rfl
  obtain ⟨x, y, rfl, hx, hy, q⟩ := h
  refine ⟨_, (pss_cons (ps_while PassesOwn.never (pt_cmpR op_gt (pv 1) pe_int (nomark _)) (pss_cons (ps_set (i := 2) sc_common_divisor.nd rfl (Or.inl rfl) (pe_op op_mod (pv 0) (pv 1)))
      (pss_cons (ps_set (i := 0) sc_common_divisor.nd rfl (Or.inl rfl) (pv 1))
      (pss_one (ps_set (i := 1) sc_common_divisor.nd rfl (Or.inl rfl) (pv 2))))))
      (pss_one (ps_ret (pv 0)))), ?_⟩
  refine while_by (fun σ H' => ∃ (a b : Int) (r : Option V), σ = [some (.int a), some (.int b), r] ∧ 0 ≤ a ∧ 0 ≤ b ∧ M1.gd a b = M1.gd x y ∧ H' = H)
    (fun σ _ => match σ with | [_, some (.int b), _] => b.toNat | _ => 0) ⟨x, y, none, rfl, hx, hy, rfl, rfl⟩ ?_ ?_
  · rintro σ H' ⟨a, b, r, rfl, ha, hb, hg, rfl⟩
    refine ⟨_, rfl, _, _, rfl, rfl, _, rfl, ?_⟩
    refine ite2 (fun c => ?_) (fun c => ?_)
    · have c' : 0 < b := of_decide_eq_true c
      have m1 := Int.emod_nonneg a (show b ≠ 0 by omega)
      have m2 := Int.emod_lt_of_pos a c'
      refine ⟨_, rfl, _, rfl, _, _, rfl, rfl, c', _, rfl, _, rfl, ?_⟩
      refine ⟨⟨b, a % b, _, rfl, hb, m1, M1.gd_step.trans hg, rfl⟩, ?_⟩
      show (a % b).toNat < b.toNat
      omega
    · have c' : ¬ 0 < b := of_decide_eq_false (Bool.eq_false_iff.mpr c)
      have e : b = 0 := by omega
      subst e
      rw [M1.gd_zero ha] at hg
      refine ⟨_, rfl, ?_⟩
      rw [hg]
      exact q
  · rintro σ H' Q1 Q2 hq ⟨v, e, i, j, e1, e2, k, ek, q1⟩
    exact ⟨v, e, i, j, e1, e2, k, ek, hq _ _ q1⟩
theorem sc_lowest : FnScope ["top", "bottom", "divisor"] ["top", "bottom"] (defScope s_lowest) := ⟨rfl, rfl, rfl, by decide +kernel, rfl, by decide +kernel, by decide +kernel⟩
theorem ok_lowest (D : Dfn K mg "lowest" s_lowest ["top", "bottom"] f fd) (T : Txt K mg c_WaitError c_NoWeight c_NoSorts c_NoSort c_Over c_Piece c_Held c_Waiting c_Done c_GivenUp c_CalledOff c_Missed c_Sort c_Sorts) (C_common_divisor : Cal P w K mg base "common_divisor" 1 ["one", "other"] spDiv) : Cal P w K mg base "lowest" 2 ["top", "bottom"] spLowest := by
  refine D.cal (D.F.ok sc_lowest (fun vs H Q E h => ?_) (fun cdv A outer s H vs Q E hr h => ?_))
  · obtain ⟨x, y, rfl, _⟩ := h
    rfl
  obtain ⟨x, y, rfl, hy, hz, q⟩ := h
  refine ⟨_, (pss_cons (ps_set (i := 2) sc_lowest.nd rfl (Or.inl rfl) (pe_cal C_common_divisor (hr.mono (by decide)) rfl (pa_cons (pe_callB call_abs rfl T.b_abs bt_abs (pa_cons (pv 0) pa_nil)) (pa_cons (pv 1) pa_nil))))
      (pss_one (ps_ret (pe_tupS (pa_cons (pe_op op_fdivB (pv 0) (pv 2)) (pa_cons (pe_op op_fdivB (pv 1) (pv 2)) pa_nil)))))), ?_⟩
  have g1 := M1.gd_pos (x := x) hy
  have g2 := M1.gd_le (x := x) hy
  have ga : 0 ≤ (if x < 0 then -x else x) := by split <;> omega
  refine ⟨_, rfl, _, rfl, _, rfl, _, _, rfl, ga, by omega, ?_⟩
  rw [M1.gd_abs]
  refine ⟨_, rfl, _, rfl, _, _, rfl, rfl, ⟨g1, by omega⟩, _, rfl, _, rfl, _, _, rfl, rfl, ⟨g1, by omega⟩, sz 2 (by decide), fun p H2 sm hn hp => ?_⟩
  exact q p H2 sm hp
theorem sc_is_weight : FnScope ["thing"] ["thing"] (defScope s_is_weight) := ⟨rfl, rfl, rfl, by decide +kernel, rfl, by decide +kernel, by decide +kernel⟩
theorem ok_is_weight (D : Dfn K mg "is_weight" s_is_weight ["thing"] f fd) (T : Txt K mg c_WaitError c_NoWeight c_NoSorts c_NoSort c_Over c_Piece c_Held c_Waiting c_Done c_GivenUp c_CalledOff c_Missed c_Sort c_Sorts) (C_is_whole : Cal P w K mg base "is_whole" 1 ["thing", "low", "high"] (spIsWhole K)) : Cal P w K mg base "is_weight" 2 ["thing"] (spIsW K) := by
  refine D.cal (D.F.ok sc_is_weight (fun vs H Q E h => ?_) (fun cdv A outer s H vs Q E hr h => ?_))
  · obtain ⟨x, b, rfl, _⟩ := h
    rfl
  obtain ⟨x, b, rfl, h, q⟩ := h
  refine ⟨_, (pss_cons (ps_if (PW.pt (pw_or (pt_not (pt_val (pe_callB (call_isYT (n := "tuple")) rfl T.b_isinstance bt_isinstance (pa_cons (pv 0) (pa_cons (pe_bltn (v := .ty "tuple") rfl T.b_tuple bt_tuple rfl) pa_nil))))) (pw_or1 (pt_cmpR op_ne (pe_callB call_len_seq rfl T.b_len bt_len (pa_cons (pv 0) pa_nil)) pe_int (nomark _))))) (pss_one (ps_ret pe_bl)) pss_nil)
      (pss_one (ps_ret (pe_and (pe_cal C_is_whole (hr.mono (by decide)) rfl (pa_cons (pe_ix ix_tup (pv 0) pe_int (fun _ _ => rfl)) (pa_cons pe_int (pa_cons (pe_glob (v := .int 1000000) rfl T.g_MOST_TOP.choose_spec ⟨_, rfl⟩) pa_nil)))) (pe_one (pe_cal C_is_whole (hr.mono (by decide)) rfl (pa_cons (pe_ix ix_tup (pv 0) pe_int (fun _ _ => rfl)) (pa_cons pe_int (pa_cons (pe_glob (v := .int 12) rfl T.g_MOST_BOTTOM.choose_spec ⟨_, rfl⟩) pa_nil))))))))), ?_⟩
  rcases h with ⟨p, t, u, b1, b2, rfl, hp, w1, w2, rfl⟩ | ⟨rfl, ⟨p, xs, rfl, hp, hn⟩ | ⟨t, ty, e⟩⟩
  · refine ⟨_, rfl, _, _, _, rfl, .old (.tup hp), T.q_tuple_tuple, _, rfl, iteF ?_⟩
    refine ⟨_, rfl, p, _, rfl, .inr (SqT.of hp), rfl, _, rfl, ?_⟩
    refine ite2 (fun c => absurd rfl (ndi_t c)) (fun _ => ?_)
    refine ⟨_, rfl, p, _, _, _, rfl, rfl, SqT.of hp, rfl, _, _, _, b1, rfl, w1, _, rfl, ?_⟩
    cases b1 with
    | true => exact iteT ⟨_, rfl, p, _, _, _, rfl, rfl, SqT.of hp, rfl, _, _, _, b2, rfl, w2, q⟩
    | false => exact iteF q
  · refine ⟨_, rfl, _, _, _, rfl, .old (.tup hp), T.q_tuple_tuple, _, rfl, iteF ?_⟩
    refine ⟨_, rfl, p, xs, rfl, .inr (SqT.of hp), rfl, _, rfl, ?_⟩
    exact ite2 (fun _ => q) (fun c => absurd (by have := ndi_f c; omega) hn)
  · refine ⟨_, rfl, _, _, _, rfl, .old ty, e, _, rfl, iteT (iteT ?_)⟩
    exact q
theorem sc_is_row : FnScope ["thing"] ["thing"] (defScope s_is_row) := ⟨rfl, rfl, rfl, by decide +kernel, rfl, by decide +kernel, by decide +kernel⟩
theorem ok_is_row (D : Dfn K mg "is_row" s_is_row ["thing"] f fd) (T : Txt K mg c_WaitError c_NoWeight c_NoSorts c_NoSort c_Over c_Piece c_Held c_Waiting c_Done c_GivenUp c_CalledOff c_Missed c_Sort c_Sorts) (C_is_whole : Cal P w K mg base "is_whole" 1 ["thing", "low", "high"] (spIsWhole K)) (C_is_name : Cal P w K mg base "is_name" 2 ["thing"] (spName K)) (C_is_weight : Cal P w K mg base "is_weight" 2 ["thing"] (spIsW K)) : Cal P w K mg base "is_row" 3 ["thing"] (spIsRow K) := by
  refine D.cal (D.F.ok sc_is_row (fun vs H Q E h => ?_) (fun cdv A outer s H vs Q E hr h => ?_))
  · obtain ⟨x, b, rfl, _⟩ := h
    rfl
  obtain ⟨x, b, rfl, h, q⟩ := h
  refine ⟨_, (pss_cons (ps_if (PW.pt (pw_or (pt_not (pt_val (pe_callB (call_isYT (n := "tuple")) rfl T.b_isinstance bt_isinstance (pa_cons (pv 0) (pa_cons (pe_bltn (v := .ty "tuple") rfl T.b_tuple bt_tuple rfl) pa_nil))))) (pw_or1 (pt_cmpR op_ne (pe_callB call_len_seq rfl T.b_len bt_len (pa_cons (pv 0) pa_nil)) pe_int (nomark _))))) (pss_one (ps_ret pe_bl)) pss_nil)
      (pss_cons (ps_if (PW.pt (pw_or (pt_not (pt_val (pe_cal C_is_name (hr.mono (by decide)) rfl (pa_cons (pe_ix ix_tup (pv 0) pe_int (fun _ _ => rfl)) pa_nil)))) (pw_or (pt_not (pt_val (pe_cal C_is_weight (hr.mono (by decide)) rfl (pa_cons (pe_ix ix_tup (pv 0) pe_int (fun _ _ => rfl)) pa_nil)))) (pw_or1 (pt_not (pt_val (pe_cal C_is_weight (hr.mono (by decide)) rfl (pa_cons (pe_ix ix_tup (pv 0) pe_int (fun _ _ => rfl)) pa_nil)))))))) (pss_one (ps_ret pe_bl)) pss_nil)
      (pss_one (ps_ret (pe_and (pe_cal C_is_whole (hr.mono (by decide)) rfl (pa_cons (pe_ix ix_tup (pv 0) pe_int (fun _ _ => rfl)) (pa_cons pe_int (pa_cons (pe_glob (v := .int 4) rfl T.g_MOST_SPAN.choose_spec ⟨_, rfl⟩) pa_nil)))) (pe_one (pe_cal C_is_whole (hr.mono (by decide)) rfl (pa_cons (pe_ix ix_tup (pv 0) pe_int (fun _ _ => rfl)) (pa_cons pe_int (pa_cons (pe_glob (v := .int 3) rfl T.g_MOST_TRIES.choose_spec ⟨_, rfl⟩) pa_nil)))))))))), ?_⟩
  rcases h with ⟨p, a1, a2, a3, a4, a5, b1, b2, b3, b4, b5, rfl, hp, h1, h2, h3, h4, h5, rfl⟩ | ⟨rfl, ⟨p, xs, rfl, hp, hn⟩ | ⟨t, ty, e⟩⟩
  · refine ⟨_, rfl, _, _, _, rfl, .old (.tup hp), T.q_tuple_tuple, _, rfl, iteF ?_⟩
    refine ⟨_, rfl, p, _, rfl, .inr (SqT.of hp), rfl, _, rfl, ?_⟩
    refine ite2 (fun c => absurd rfl (ndi_t c)) (fun _ => ?_)
    refine ⟨_, rfl, p, _, _, _, rfl, rfl, SqT.of hp, rfl, _, b1, rfl, h1, fun H1 s1 => ⟨_, rfl, ?_⟩⟩
    have p1 := s1 _ _ hp
    cases b1 with
    | false => exact iteT (q H1 s1)
    | true =>
    refine iteF ?_
    refine ⟨_, rfl, p, _, _, _, rfl, rfl, SqT.of p1, rfl, _, b2, rfl, h2.same s1, _, rfl, ?_⟩
    cases b2 with
    | false => exact iteT (q H1 s1)
    | true =>
    refine iteF ?_
    refine ⟨_, rfl, p, _, _, _, rfl, rfl, SqT.of p1, rfl, _, b3, rfl, h3.same s1, _, rfl, ?_⟩
    cases b3 with
    | false => exact iteT (q H1 s1)
    | true =>
    refine iteF ?_
    refine ⟨_, rfl, p, _, _, _, rfl, rfl, SqT.of p1, rfl, _, _, _, b4, rfl, h4.same s1, _, rfl, ?_⟩
    cases b4 with
    | true => exact iteT ⟨_, rfl, p, _, _, _, rfl, rfl, SqT.of p1, rfl, _, _, _, b5, rfl, h5.same s1, q H1 s1⟩
    | false => exact iteF (q H1 s1)
  · refine ⟨_, rfl, _, _, _, rfl, .old (.tup hp), T.q_tuple_tuple, _, rfl, iteF ?_⟩
    refine ⟨_, rfl, p, xs, rfl, .inr (SqT.of hp), rfl, _, rfl, ?_⟩
    exact ite2 (fun _ => q H (Same.refl H)) (fun c => absurd (by have := ndi_f c; omega) hn)
  · refine ⟨_, rfl, _, _, _, rfl, .old ty, e, _, rfl, iteT (iteT ?_)⟩
    exact q H (Same.refl H)
theorem bl_range (bs : List Bool) : (((List.range bs.length).filter fun _ => true).map fun i => V.bl (bs.getD i false)) = bs.map V.bl := by
  rw [List.filter_eq_self.mpr fun _ _ => rfl]
  refine List.ext_getElem? fun i => ?_
  rw [List.getElem?_map, List.getElem?_map]
  by_cases h : i < bs.length
  · rw [List.getElem?_range h, Option.map_some, List.getD_eq_getElem?_getD, List.getElem?_eq_getElem h]
    rfl
  · rw [List.getElem?_eq_none (by rw [List.length_range]; omega), List.getElem?_eq_none (by omega)]
    rfl
theorem str_range {α : Type} (zs : List α) (g : α → Str) (d : α) : (((List.range zs.length).filter fun _ => true).map fun i => V.str (g (zs.getD i d))) = (zs.map g).map V.str := by
  rw [List.filter_eq_self.mpr fun _ _ => rfl, List.map_map]
  refine List.ext_getElem? fun i => ?_
  rw [List.getElem?_map, List.getElem?_map]
  by_cases h : i < zs.length
  · rw [List.getElem?_range h, Option.map_some, List.getD_eq_getElem?_getD, List.getElem?_eq_getElem h]
    rfl
  · rw [List.getElem?_eq_none (by rw [List.length_range]; omega), List.getElem?_eq_none (by omega)]
    rfl
def SR.non : SR := ⟨Str.empty, 0, 0, 0, 0, 0, 0⟩
theorem RsB.key {H : Hp} {x : V} {b : Bool} (h : RsB K H x b) : (NoTy K H "list" x ∧ b = false) ∨ (∃ l xs, x = .ref l ∧ H l = some (.lst xs) ∧ ¬ (1 ≤ xs.length ∧ xs.length ≤ 8) ∧ b = false) ∨
    ∃ (l : Addr) (xs : List V) (bs : List Bool), x = .ref l ∧ H l = some (.lst xs) ∧ 1 ≤ xs.length ∧ xs.length ≤ 8 ∧ bs.length = xs.length ∧ (∀ (i : Nat) v, xs[i]? = some v → RwB K H v (bs.getD i false)) ∧
      ((bs.all id = false ∧ b = false) ∨ (bs.all id = true ∧ ∃ zs, IsSRs H l zs ∧ b = decide ((metK (fun i => (zs.map (·.2.nm)).getD i Str.empty) zs.length).length = zs.length))) := by
  have get : ∀ {zs : List (Addr × SR)} {i : Nat} {q : Addr × SR}, zs[i]? = some q → (zs.map (·.2.nm)).getD i Str.empty = q.2.nm := fun {zs i q} e => by
    rw [List.getD_eq_getElem?_getD, List.getElem?_map, e]
    rfl
  have tr : ∀ {l : Addr} {zs : List (Addr × SR)}, IsSRs H l zs → (∀ q, q ∈ zs → q.2.Ok) → ∀ (i : Nat) v, (zs.map fun q => V.ref q.1)[i]? = some v → RwB K H v ((List.replicate zs.length true).getD i false) := fun {l zs} g ok i v hv => by
    rw [List.getElem?_map] at hv
    cases e : zs[i]? with
    | none => rw [e] at hv; cases hv
    | some q =>
      rw [e] at hv
      cases hv
      have hi := (List.getElem?_eq_some_iff.mp e).1
      have m := List.mem_of_getElem? e
      rw [List.getD_eq_getElem?_getD, List.getElem?_replicate, if_pos hi]
      exact (g.sr q m).rw (ok q m)
  have all1 : ∀ n, (List.replicate n true).all id = true := fun n => by
    rw [List.all_eq_true]
    intro y hy
    rw [(List.mem_replicate.mp hy).2]
    rfl
  rcases h with ⟨l, zs, e, g, k, rfl⟩ | ⟨rfl, ⟨l, xs, e, g, k⟩ | ⟨l, xs, e, g, k, m, i0, v0, n1, n2⟩ | ⟨l, zs, e, g, k, m, i, j, q, p, ij, hi, hj, en⟩ | n⟩
  · have l0 := k.l0
    have l1 := k.l1
    rw [List.length_map] at l0 l1
    refine .inr (.inr ⟨l, _, List.replicate zs.length true, e, g.at_, by rw [List.length_map]; exact l0, by rw [List.length_map]; exact l1, by rw [List.length_map, List.length_replicate], tr g fun q hq => k.ok _ (List.mem_map_of_mem hq), .inr ⟨all1 _, zs, g, ?_⟩⟩)
    refine (decide_eq_true (metK_all _ _ fun a b' ha hb eab => ?_)).symm
    have ea := List.getElem?_eq_getElem ha
    have eb := List.getElem?_eq_getElem hb
    rw [get ea, get eb] at eab
    exact k.nd a b' zs[a].2 zs[b'].2 (by rw [List.getElem?_map, ea]; rfl) (by rw [List.getElem?_map, eb]; rfl) eab
  · exact .inr (.inl ⟨l, xs, e, g, k, rfl⟩)
  · by_cases c : 1 ≤ xs.length ∧ xs.length ≤ 8
    · obtain ⟨bs, lb, hb⟩ := list_choice (fun i c => ∀ v, xs[i]? = some v → RwB K H v c ∧ (i = i0 → c = false)) xs.length fun i hi => by
        obtain ⟨c, hc⟩ := m i _ (List.getElem?_eq_getElem hi)
        by_cases z : i = i0
        · subst z
          exact ⟨false, fun v hv => ⟨by rw [hv] at n1; cases n1; exact n2, fun _ => rfl⟩⟩
        · exact ⟨c, fun v hv => ⟨by rw [List.getElem?_eq_getElem hi] at hv; cases hv; exact hc, fun y => absurd y z⟩⟩
      refine .inr (.inr ⟨l, xs, bs, e, g, c.1, c.2, lb, fun i v hv => ?_, .inl ⟨?_, rfl⟩⟩)
      · have hi : i < bs.length := by rw [lb]; exact (List.getElem?_eq_some_iff.mp hv).1
        rw [List.getD_eq_getElem?_getD, List.getElem?_eq_getElem hi]
        exact (hb i _ (List.getElem?_eq_getElem hi) v hv).1
      · have hi : i0 < bs.length := by rw [lb]; exact (List.getElem?_eq_some_iff.mp n1).1
        have z := (hb i0 _ (List.getElem?_eq_getElem hi) v0 n1).2 rfl
        rw [Bool.eq_false_iff]
        intro y
        have := List.all_eq_true.mp y bs[i0] (List.getElem_mem hi)
        rw [z] at this
        cases this
    · exact .inr (.inl ⟨l, xs, e, g, c, rfl⟩)
  · have hl : j < zs.length := (List.getElem?_eq_some_iff.mp hj).1
    refine .inr (.inr ⟨l, _, List.replicate zs.length true, e, g.at_, by rw [List.length_map]; omega, by rw [List.length_map]; exact k, by rw [List.length_map, List.length_replicate], tr g m, .inr ⟨all1 _, zs, g, ?_⟩⟩)
    refine (decide_eq_false fun z => ?_).symm
    have := metK_less (fun i => (zs.map (·.2.nm)).getD i Str.empty) ij (by rw [get hi, get hj]; exact en) zs.length hl
    omega
  · exact .inl ⟨n, rfl⟩
theorem sc_are_rows : FnScope ["thing"] ["thing"] (defScope s_are_rows) := ⟨rfl, rfl, rfl, by decide +kernel, rfl, by decide +kernel, by decide +kernel⟩
theorem ok_are_rows (D : Dfn K mg "are_rows" s_are_rows ["thing"] f fd) (T : Txt K mg c_WaitError c_NoWeight c_NoSorts c_NoSort c_Over c_Piece c_Held c_Waiting c_Done c_GivenUp c_CalledOff c_Missed c_Sort c_Sorts) (C_is_row : Cal P w K mg base "is_row" 3 ["thing"] (spIsRow K)) : Cal P w K mg base "are_rows" 4 ["thing"] (spAreRows K) := by
  refine D.cal (D.F.ok sc_are_rows (fun vs H Q E h => ?_) (fun cdv A outer s H vs Q E hr h => ?_))
  · obtain ⟨x, b, rfl, _⟩ := h
    rfl
  obtain ⟨x, b, rfl, h, q⟩ := h
  refine ⟨_, (pss_cons (ps_if (PW.pt (pw_or (pt_not (pt_val (pe_callB (call_isYT (n := "list")) rfl T.b_isinstance bt_isinstance (pa_cons (pv 0) (pa_cons (pe_bltn (v := .ty "list") rfl T.b_list bt_list rfl) pa_nil))))) (pw_or1 (pt_not (pt_chain op_le op_le pe_int (pe_callB call_len_seq rfl T.b_len bt_len (pa_cons (pv 0) pa_nil)) (pe_glob (v := .int 8) rfl T.g_MOST_SORTS.choose_spec ⟨_, rfl⟩)))))) (pss_one (ps_ret pe_bl)) pss_nil)
      (pss_cons (ps_if (pt_not (pt_val (pe_callB (call_allB rfl) rfl T.b_all bt_all (pa_cons (pe_comp (N := ["row"]) (js := []) rfl (CompScope.of rfl rfl rfl rfl rfl (by decide +kernel) rfl rfl rfl rfl) (pi_list (pv 0)) (fun _ _ _ _ _ => ct_nil) (fun _ _ _ _ _ => (pe_cal C_is_row (hr.mono (by decide)) rfl (pa_cons (pv 0) pa_nil)))) pa_nil)))) (pss_one (ps_ret pe_bl)) pss_nil)
      (pss_one (ps_ret (pe_cmpR op_eq (pe_lenset rfl rfl T.b_len rfl T.b_set (pa_cons (pe_comp (N := ["row"]) (js := []) rfl (CompScope.of rfl rfl rfl rfl rfl (by decide +kernel) rfl rfl rfl rfl) (pi_list (pv 0)) (fun _ _ _ _ _ => ct_nil) (fun _ _ _ _ _ => (pe_ix (r := rIxT K) ix_tup (pv 0) pe_int (fun _ _ => rfl)))) pa_nil)) (pe_callB call_len_seq rfl T.b_len bt_len (pa_cons (pv 0) pa_nil)) (nomark _)))))), ?_⟩
  rcases h.key with ⟨⟨t, ty, e⟩, rfl⟩ | ⟨l, xs, rfl, hl, c, rfl⟩ | ⟨l, xs, bs, rfl, hl, c0, c1, lb, hb, h⟩
  · refine ⟨_, rfl, _, _, _, rfl, .old ty, e, _, rfl, iteT (iteT ?_)⟩
    exact q H (Same.refl H)
  · refine ⟨_, rfl, _, _, _, rfl, .old (.lst hl), T.q_list_list, _, rfl, iteF ?_⟩
    have hz : (1000 : Nat) ≤ sizeLine := by decide
    refine ⟨_, rfl, l, xs, rfl, .inl (SqL.of hl), _, _, rfl, rfl, _, rfl, ?_⟩
    refine ite2 (fun d => ?_) (fun d => ?_)
    · have d' : (1 : Int) ≤ (xs.length : Int) := of_decide_eq_true d
      refine ⟨_, _, rfl, rfl, _, rfl, ?_⟩
      rw [decide_eq_false (show ¬ (xs.length : Int) ≤ 8 by omega)]
      exact iteT (q H (Same.refl H))
    · exact ⟨_, rfl, iteT (q H (Same.refl H))⟩
  · refine ⟨_, rfl, _, _, _, rfl, .old (.lst hl), T.q_list_list, _, rfl, iteF ?_⟩
    refine ⟨_, rfl, l, xs, rfl, .inl (SqL.of hl), _, _, rfl, rfl, _, rfl, ?_⟩
    refine ite2 (fun _ => ?_) (fun d => absurd (decide_eq_true (show (1 : Int) ≤ (xs.length : Int) by omega)) d)
    refine ⟨_, _, rfl, rfl, _, rfl, ?_⟩
    rw [decide_eq_true (show (xs.length : Int) ≤ 8 by omega)]
    refine iteF ?_
    have sz : (1000 : Nat) ≤ sizeLine := by decide
    refine ⟨_, rfl, l, rfl, ⟨_, SqL.of hl⟩, comp_list (fun _ => true) (fun i => V.bl (bs.getD i false)) (SqL.of hl) (fun i v Hh Q' hv s1 q' => q' Hh (Same.refl Hh)) (fun i v Hh Q' hv _ s1 q' => ?_) (by omega) (fun D H2 s2 nD hD => ?_)⟩
    · exact ⟨_, rfl, v, _, rfl, (hb i v hv).same s1, fun H' s' => q' H' s'⟩
    rw [← lb, bl_range] at hD
    refine ⟨D, bs, rfl, SqL.of hD, _, rfl, ?_⟩
    rcases h with ⟨hb0, rfl⟩ | ⟨hb1, zs, hz, rfl⟩
    · rw [hb0]
      exact iteT (q H2 s2)
    rw [hb1]
    refine iteF ?_
    have hz2 := hz.same s2
    have lz : zs.length = xs.length := by
      have a := hz.at_
      rw [hl] at a
      have := congrArg List.length (HO.lst.inj (Option.some.inj a))
      rw [List.length_map] at this
      exact this.symm
    refine ⟨_, rfl, l, rfl, ⟨_, SqL.of hz2.at_⟩, comp_list (fun _ => true) (fun i => V.str ((zs.getD i (0, SR.non)).2.nm)) (SqL.of hz2.at_) (fun i v Hh Q' hv s3 q' => q' Hh (Same.refl Hh)) (fun i v Hh Q' hv _ s3 q' => ?_) (by rw [List.length_map]; omega) (fun E2 H4 s4 nE hE => ?_)⟩
    · rw [List.getElem?_map] at hv
      cases ez : zs[i]? with
      | none => rw [ez] at hv; cases hv
      | some z =>
        rw [ez] at hv
        cases hv
        obtain ⟨pw, ps, a1, a2, a3⟩ := (hz2.sr z (List.mem_of_getElem? ez)).same s3
        have eg : zs.getD i (0, SR.non) = z := by rw [List.getD_eq_getElem?_getD, ez]; rfl
        rw [eg] at q'
        exact ⟨_, rfl, _, _, _, _, rfl, rfl, SqT.of a1, rfl, q' Hh (Same.refl Hh)⟩
    rw [List.length_map, str_range zs (fun z => z.2.nm) (0, SR.non)] at hE
    refine ⟨E2, _, rfl, SqL.of hE, by rw [List.length_map]; omega, ?_⟩
    have hl4 := s4 _ _ (s2 _ _ hl)
    refine ⟨_, rfl, l, xs, rfl, .inl (SqL.of hl4), rfl, ?_⟩
    have qq := q H4 (s2.trans s4)
    rw [List.length_map, ← lz]
    have ed : decide (V.int ((metK (fun i => (zs.map (·.2.nm)).getD i Str.empty) zs.length).length : Int) = V.int (zs.length : Int)) = decide ((metK (fun i => (zs.map (·.2.nm)).getD i Str.empty) zs.length).length = zs.length) := by
      rw [decide_eq_decide]
      constructor
      · intro z
        injection z with z
        omega
      · intro z
        rw [z]
    rw [ed]
    exact qq
theorem no5 {C : Addr} (a : NoAttr K C "name") (b : NoAttr K C "weight") (c : NoAttr K C "speed") (d : NoAttr K C "span") (e : NoAttr K C "tries") : ∀ g, g ∈ soN → NoAttr K C g := fun g hg => by
  rcases List.mem_cons.mp hg with rfl | hg
  · exact a
  rcases List.mem_cons.mp hg with rfl | hg
  · exact b
  rcases List.mem_cons.mp hg with rfl | hg
  · exact c
  rcases List.mem_cons.mp hg with rfl | hg
  · exact d
  rw [List.mem_singleton.mp hg]
  exact e
theorem sc_in_lowest : FnScope ["weight"] ["weight"] (defScope s_in_lowest) := ⟨rfl, rfl, rfl, by decide +kernel, rfl, by decide +kernel, by decide +kernel⟩
theorem ok_in_lowest (D : Dfn K mg "in_lowest" s_in_lowest ["weight"] f fd) (T : Txt K mg c_WaitError c_NoWeight c_NoSorts c_NoSort c_Over c_Piece c_Held c_Waiting c_Done c_GivenUp c_CalledOff c_Missed c_Sort c_Sorts) (C_lowest : Cal P w K mg base "lowest" 2 ["top", "bottom"] spLowest) : Cal P w K mg base "in_lowest" 3 ["weight"] spInLow := by
  refine D.cal (D.F.ok sc_in_lowest (fun vs H Q E h => ?_) (fun cdv A outer s H vs Q E hr h => ?_))
  · obtain ⟨p, t, b, rfl, _⟩ := h
    rfl
  obtain ⟨p, t, b, rfl, hp, b0, b1, q⟩ := h
  exact ⟨_, (pss_one (ps_ret (pe_cal C_lowest (hr.mono (by decide)) rfl (pa_cons (pe_ix ix_tup (pv 0) pe_int (fun _ _ => rfl)) (pa_cons (pe_ix ix_tup (pv 0) pe_int (fun _ _ => rfl)) pa_nil))))), _, rfl, p, _, _, _, rfl, rfl, SqT.of hp, rfl, _, rfl, p, _, _, _, rfl, rfl, SqT.of hp, rfl, t, b, rfl, by omega, by omega, q⟩
theorem sc_Sort___init__ : FnScope ["self", "name", "weight", "speed", "span", "tries"] ["self", "name", "weight", "speed", "span", "tries"] (defScope s_Sort___init__) := ⟨rfl, rfl, rfl, by decide +kernel, rfl, by decide +kernel, by decide +kernel⟩
theorem ok_Sort___init__ (D : Mfn K "__init__" "Sort.__init__" s_Sort___init__ ["self", "name", "weight", "speed", "span", "tries"] f fd) (T : Txt K mg c_WaitError c_NoWeight c_NoSorts c_NoSort c_Over c_Piece c_Held c_Waiting c_Done c_GivenUp c_CalledOff c_Missed c_Sort c_Sorts) (C_in_lowest : Cal P w K mg base "in_lowest" 3 ["weight"] spInLow) : FnOk P w K mg base CX0 4 f fd ["self", "name", "weight", "speed", "span", "tries"] (spSoInit K) := by
  refine D.F.ok sc_Sort___init__ (fun vs H Q E h => ?_) (fun cdv A outer s H vs Q E hr h => ?_)
  · obtain ⟨x, C, dx, pw, ps, r, rfl, _⟩ := h
    rfl
  obtain ⟨x, C, dx, pw, ps, r, rfl, hx, cl, no, hw, hs, ok, q⟩ := h
  refine ⟨_, (pss_cons (ps_fldS (pv 0) (pv 1))
      (pss_cons (ps_fldS (pv 0) (pe_cal C_in_lowest (hr.mono (by decide)) rfl (pa_cons (pv 2) pa_nil)))
      (pss_cons (ps_fldS (pv 0) (pe_cal C_in_lowest (hr.mono (by decide)) rfl (pa_cons (pv 3) pa_nil)))
      (pss_cons (ps_fldS (pv 0) (pv 4))
      (pss_one (ps_fldS (pv 0) (pv 5))))))), ?_⟩
  have nx : ∀ {z xs} {Hh : Hp} {fs}, Hh x = some (.ins C dx fs) → Hh z = some (.tup xs) → z ≠ x := fun h e z => by rw [z, h] at e; cases e
  refine ⟨_, rfl, _, rfl, x, C, dx, _, rfl, hx, cl, no _ (by decide), (by show (0 : Nat) < 1000; decide), fun H1 k1 h1 => ?_⟩
  have h1 : H1 x = some (.ins C dx [("name", .str r.nm)]) := by
    rw [h1]
    rfl
  have w1 := k1 _ _ (nx hx hw) hw
  have s1 := k1 _ _ (nx hx hs) hs
  refine ⟨_, rfl, pw, r.a, r.b, rfl, w1, ok.b0, ok.b1, fun p2 H2 e2 g2 => ?_⟩
  have h2 := e2 _ _ h1
  have s2 := e2 _ _ s1
  refine ⟨_, rfl, x, C, dx, _, rfl, h2, cl, no _ (by decide), (by show (1 : Nat) < 1000; decide), fun H3 k3 h3 => ?_⟩
  have h3 : H3 x = some (.ins C dx [("name", .str r.nm), ("weight", .ref p2)]) := by
    rw [h3]
    rfl
  have g3 := k3 _ _ (nx h2 g2) g2
  have s3 := k3 _ _ (nx h2 s2) s2
  refine ⟨_, rfl, ps, r.c, r.d, rfl, s3, ok.d0, ok.d1, fun p4 H4 e4 g4 => ?_⟩
  have h4 := e4 _ _ h3
  refine ⟨_, rfl, x, C, dx, _, rfl, h4, cl, no _ (by decide), (by show (2 : Nat) < 1000; decide), fun H5 k5 h5 => ?_⟩
  have h5 : H5 x = some (.ins C dx [("name", .str r.nm), ("weight", .ref p2), ("speed", .ref p4)]) := by
    rw [h5]
    rfl
  have a5 := k5 _ _ (nx h4 (e4 _ _ g3)) (e4 _ _ g3)
  have b5 := k5 _ _ (nx h4 g4) g4
  refine ⟨_, rfl, _, rfl, x, C, dx, _, rfl, h5, cl, no _ (by decide), (by show (3 : Nat) < 1000; decide), fun H6 k6 h6 => ?_⟩
  have h6 : H6 x = some (.ins C dx [("name", .str r.nm), ("weight", .ref p2), ("speed", .ref p4), ("span", .int r.sp)]) := by
    rw [h6]
    rfl
  refine ⟨_, rfl, _, rfl, x, C, dx, _, rfl, h6, cl, no _ (by decide), (by show (4 : Nat) < 1000; decide), fun H7 k7 h7 => ?_⟩
  have h7 : H7 x = some (.ins C dx (soF r.nm p2 p4 r.sp r.tr)) := by
    rw [h7]
    rfl
  have k67 := k6.trans k7
  exact q H7 p2 p4 (k1.trans ((e2.toBut).trans (k3.trans ((e4.toBut).trans (k5.trans k67))))) h7 (k67 _ _ (nx h5 a5) a5) (k67 _ _ (nx h5 b5) b5)
theorem sc_Sort_as_row : FnScope ["self"] ["self"] (defScope s_Sort_as_row) := ⟨rfl, rfl, rfl, by decide +kernel, rfl, by decide +kernel, by decide +kernel⟩
theorem ok_Sort_as_row (D : Mfn K "as_row" "Sort.as_row" s_Sort_as_row ["self"] f fd) (T : Txt K mg c_WaitError c_NoWeight c_NoSorts c_NoSort c_Over c_Piece c_Held c_Waiting c_Done c_GivenUp c_CalledOff c_Missed c_Sort c_Sorts) : FnOk P w K mg base CX0 1 f fd ["self"] (spAsRow c_Sort) := by
  refine D.F.ok sc_Sort_as_row (fun vs H Q E h => ?_) (fun cdv A outer s H vs Q E hr h => ?_)
  · obtain ⟨a, r, rfl, _⟩ := h
    rfl
  obtain ⟨a, r, rfl, ⟨dx, pw, ps, e, hw, hs⟩, q⟩ := h
  have O := T.o_Sort
  exact ⟨_, (pss_one (ps_ret (pe_tupS (pai (pai_cons (pe_fld (pv 0) rfl) (pai_cons (pe_fld (pv 0) rfl) (pai_cons (pe_fld (pv 0) rfl) (pai_cons (pe_fld (pv 0) rfl) (pai_cons (pe_fld (pv 0) rfl) pai_nil))))))))), _, rfl, a, _, dx, _, _, rfl, e, O.cl, T.n_Sort_name, rfl, _, rfl, a, _, dx, _, _, rfl, e, O.cl, T.n_Sort_weight, rfl, _, rfl, a, _, dx, _, _, rfl, e, O.cl, T.n_Sort_speed, rfl, _, rfl, a, _, dx, _, _, rfl, e, O.cl, T.n_Sort_span, rfl, _, rfl, a, _, dx, _, _, rfl, e, O.cl, T.n_Sort_tries, rfl, sz 5 (by decide), fun t H1 s1 n1 h1 => q t H1 s1 ⟨pw, ps, h1, s1 _ _ hw, s1 _ _ hs⟩⟩
theorem sc_sort_from : FnScope ["row"] ["row"] (defScope s_sort_from) := ⟨rfl, rfl, rfl, by decide +kernel, rfl, by decide +kernel, by decide +kernel⟩
theorem ok_sort_from (D : Dfn K mg "sort_from" s_sort_from ["row"] f fd) (T : Txt K mg c_WaitError c_NoWeight c_NoSorts c_NoSort c_Over c_Piece c_Held c_Waiting c_Done c_GivenUp c_CalledOff c_Missed c_Sort c_Sorts) (K_Sort : MakG CX0 P w K mg base "Sort" c_Sort 4 (spSoMk c_Sort)) : Cal P w K mg base "sort_from" 6 ["row"] (spFrom c_Sort) := by
  refine D.cal (D.F.ok sc_sort_from (fun vs H Q E h => ?_) (fun cdv A outer s H vs Q E hr h => ?_))
  · obtain ⟨p, r, rfl, _⟩ := h
    rfl
  obtain ⟨p, r, rfl, ⟨pw, ps, hp, hw, hs⟩, ok, q⟩ := h
  exact ⟨_, (pss_one (ps_ret (pe_makG K_Sort (hr.mono (by decide)) rfl pass0 (pai (pai_cons (pe_ix ix_tup (pv 0) pe_int (fun _ _ => rfl)) (pai_cons (pe_ix ix_tup (pv 0) pe_int (fun _ _ => rfl)) (pai_cons (pe_ix ix_tup (pv 0) pe_int (fun _ _ => rfl)) (pai_cons (pe_ix ix_tup (pv 0) pe_int (fun _ _ => rfl)) (pai_cons (pe_ix ix_tup (pv 0) pe_int (fun _ _ => rfl)) pai_nil))))))))), _, rfl, p, _, _, _, rfl, rfl, SqT.of hp, rfl, _, rfl, p, _, _, _, rfl, rfl, SqT.of hp, rfl, _, rfl, p, _, _, _, rfl, rfl, SqT.of hp, rfl, _, rfl, p, _, _, _, rfl, rfl, SqT.of hp, rfl, _, rfl, p, _, _, _, rfl, rfl, SqT.of hp, rfl, pw, ps, r, rfl, hw, hs, ok, q⟩
theorem comp_srs {a : Addr} {xs : List V} {js : List Nat} {tc : TT} {te : TE} {σ : St} {H1 : Hp} {Q : VK} (rs : List SR) (hl : SqL K H1 a xs) (lz : rs.length = xs.length)
    (ht : ∀ (i : Nat) x Hh (Q' : Bool → Hp → Prop), xs[i]? = some x → Same H1 Hh → (∀ Hh', Same Hh Hh' → Q' true Hh') → tc (some x :: caps σ js) Hh Q')
    (he : ∀ (i : Nat) x r Hh (Q' : VK), xs[i]? = some x → rs[i]? = some r → Same H1 Hh → (∀ p Hh', Same Hh Hh' → IsSR Hh' p r → Q' (.ref p) Hh') → te (some x :: caps σ js) Hh Q')
    (hz : xs.length < sizeLine) (q : ∀ D H2 zs, Same H1 H2 → H1 D = none → IsSRs H2 D zs → zs.map (·.2) = rs → Q (.ref D) H2) :
    CompGo (Itl K a) js tc te σ H1 Q := by
  intro D H2 s2 hD h2
  refine ⟨fun i m acc H3 => m = xs.length - i ∧ i ≤ xs.length ∧ ∃ zs : List (Addr × SR), acc = (zs.map fun z => V.ref z.1) ∧ zs.map (·.2) = rs.take i ∧ (∀ z, z ∈ zs → IsSR H3 z.1 z.2) ∧ Same H1 H3 ∧ H3 D = some (.lst acc), ⟨_, rfl, Nat.zero_le _, [], rfl, by simp, fun z hz => by simp at hz, s2, h2⟩, ?_⟩
  rintro i m acc H3 ⟨rfl, hi, zs, ea, ez, hzs, s3, h3⟩
  have hl3 : SqL K H3 a xs := s3.seq hl
  subst ea
  have lzs : zs.length = i := by
    have := congrArg List.length ez
    rw [List.length_map, List.length_take] at this
    omega
  refine ⟨h3, by rw [List.length_map]; omega, ?_⟩
  by_cases hlt : i < xs.length
  · have hx : xs[i]? = some xs[i] := List.getElem?_eq_getElem hlt
    have hr : rs[i]? = some rs[i] := List.getElem?_eq_getElem (by omega)
    refine .inr ⟨⟨xs, _, hl3, hx⟩, fun y H4 z => ?_⟩
    obtain ⟨e, ey⟩ := z
    have ey2 := ey xs hl3
    subst e
    refine ht i y _ _ ey2 s3 fun H5 s5 => iteT ?_
    refine he i y _ _ _ ey2 hr (s3.trans s5) fun p H6 s6 hp => ⟨s6 _ _ (s5 _ _ h3), fun H7 k7 h7 => ⟨xs.length - (i + 1), by omega, rfl, hlt, zs ++ [(p, rs[i])], by rw [List.map_append]; rfl, ?_, fun z hz => ?_, fun b o e => ?_, h7⟩⟩
    · rw [List.map_append, ez, List.take_add_one, hr]
      rfl
    · have hd6 := s6 _ _ (s5 _ _ h3)
      rcases List.mem_append.mp hz with hz | hz
      · exact ((hzs z hz).same (s5.trans s6)).but k7 hd6 (fun _ w => by cases w)
      · rw [List.mem_singleton.mp hz]
        exact hp.but k7 hd6 (fun _ w => by cases w)
    · exact k7 b o (fun w => by rw [w, hD] at e; cases e) (s6 b o (s5 b o (s3 b o e)))
  · have e : i = xs.length := by omega
    subst e
    refine .inl ⟨⟨xs, hl3, Nat.le_refl _⟩, q D H3 zs s3 hD ⟨h3, hzs⟩ ?_⟩
    rw [ez, ← lz, List.take_length]
theorem sc_Sorts___init__ : FnScope ["self", "rows"] ["self", "rows"] (defScope s_Sorts___init__) := ⟨rfl, rfl, rfl, by decide +kernel, rfl, by decide +kernel, by decide +kernel⟩
theorem ok_Sorts___init__ (D : Mfn K "__init__" "Sorts.__init__" s_Sorts___init__ ["self", "rows"] f fd) (T : Txt K mg c_WaitError c_NoWeight c_NoSorts c_NoSort c_Over c_Piece c_Held c_Waiting c_Done c_GivenUp c_CalledOff c_Missed c_Sort c_Sorts) (C_are_rows : Cal P w K mg base "are_rows" 4 ["thing"] (spAreRows K)) (C_sort_from : Cal P w K mg base "sort_from" 6 ["row"] (spFrom c_Sort)) (X_NoSorts : XCal0 K mg "NoSorts" c_NoSorts) (M_as_row : MOk CX0 P w K mg base 1 c_Sort "as_row" (spAsRow c_Sort)) : FnOk P w K mg base (CX1 P w) 7 f fd ["self", "rows"] (spStInit K c_NoSorts) := by
  refine D.F.ok1 sc_Sorts___init__ (fun vs H Q E h => ?_) (fun cdv A outer s H vs Q E hr h => ?_)
  · obtain ⟨x, C, dx, y, rfl, _⟩ := h
    rfl
  obtain ⟨x, C, dx, y, rfl, hx, cl, no, h⟩ := h
  refine ⟨_, (pss_cons (ps_if (pt_not (pt_val (pe_cal C_are_rows (hr.mono (by decide)) rfl (pa_cons (pv 1) pa_nil)))) (pss_one (ps_raise T.x_NoSorts hr.hd (pe_xcal0 X_NoSorts rfl))) pss_nil)
      (pss_one (ps_fldS (pv 0) (pe_comp (N := ["row"]) (js := []) rfl (CompScope.of rfl rfl rfl rfl rfl (by decide +kernel) rfl rfl rfl rfl) (pi_list (pv 1)) (fun _ _ _ _ _ => ct_nil) (fun _ _ _ _ _ => (pe_mth0K (P := P) (w := w) (K := K) (mg := mg) (base := base) (k := 1) rfl rfl rfl rfl rfl (pe_cal C_sort_from (hr.mono (by decide)) rfl (pa_cons (pv 0) pa_nil)) (hr.mono (by decide)) pass0)))))), ?_⟩
  rcases h with ⟨l, xs, rfl, g, k, qT⟩ | ⟨hb, qF⟩
  · refine ⟨_, rfl, _, true, rfl, .inl ⟨l, xs, rfl, g, k, rfl⟩, fun H1 s1 => ⟨_, rfl, iteF ?_⟩⟩
    have g1 := g.same s1
    have sz : (1000 : Nat) ≤ sizeLine := by decide
    have l1 := k.l1
    rw [List.length_map] at l1
    refine ⟨_, rfl, l, rfl, ⟨_, SqL.of g1.at_⟩, comp_srs (xs.map (·.2.low)) (SqL.of g1.at_) (by rw [List.length_map, List.length_map]) (fun i v Hh Q' hv s2 q' => q' Hh (Same.refl Hh)) (fun i v r Hh Q' hv hr s2 q' => ?_) (by rw [List.length_map]; omega) (fun D H2 zs s2 nD hD ez => ?_)⟩
    · rw [List.getElem?_map] at hv hr
      cases e : xs[i]? with
      | none => rw [e] at hv; cases hv
      | some z =>
        rw [e] at hv hr
        cases hv
        cases hr
        have m := List.mem_of_getElem? e
        exact ⟨_, rfl, z.1, z.2, rfl, (g1.sr z m).same s2, k.ok _ (List.mem_map_of_mem m), fun a H3 s3 ⟨ddx, pw, ps, e1, e2, e3⟩ => ⟨a, c_Sort, ddx, _, _, rfl, e1, rfl, M_as_row, a, z.2.low, rfl, ⟨ddx, pw, ps, e1, e2, e3⟩, fun p H4 s4 h4 => q' p H4 (s3.trans s4) h4⟩⟩
    · have hx2 := s2 _ _ (s1 _ _ hx)
      refine ⟨_, rfl, x, C, dx, _, rfl, hx2, cl, no, (by show (0 : Nat) < 1000; decide), fun H3 k3 h3 => ?_⟩
      have h3 : H3 x = some (.ins C dx [("rows", .ref D)]) := by
        rw [h3]
        rfl
      exact qT H3 D zs ((s1.toBut.trans s2.toBut).trans k3) h3 (hD.but k3 hx2 (fun _ w => by cases w) (fun w => by have := hD.at_; rw [w, hx2] at this; cases this)) ez
  · exact ⟨_, rfl, y, false, rfl, hb, fun H1 s1 => ⟨_, rfl, iteT (raise_bare s1 qF)⟩⟩
theorem sc_Sorts_sort_of : FnScope ["self", "name", "row"] ["self", "name"] (defScope s_Sorts_sort_of) := ⟨rfl, rfl, rfl, by decide +kernel, rfl, by decide +kernel, by decide +kernel⟩
theorem ok_Sorts_sort_of (D : Mfn K "sort_of" "Sorts.sort_of" s_Sorts_sort_of ["self", "name"] f fd) (T : Txt K mg c_WaitError c_NoWeight c_NoSorts c_NoSort c_Over c_Piece c_Held c_Waiting c_Done c_GivenUp c_CalledOff c_Missed c_Sort c_Sorts) (C_sort_from : Cal P w K mg base "sort_from" 6 ["row"] (spFrom c_Sort)) (X_NoSort : XCal P w K mg base "NoSort" c_NoSort "name") : FnOk P w K mg base (CX1 P w) 7 f fd ["self", "name"] (spSortOf K c_Sort c_Sorts c_NoSort) := by
  refine D.F.ok1 sc_Sorts_sort_of (fun vs H Q E h => ?_) (fun cdv A outer s H vs Q E hr h => ?_)
  · obtain ⟨a, rs, x, rfl, _⟩ := h
    rfl
  obtain ⟨a, rs, x, rfl, ⟨dx, l, xs, e, g, rfl⟩, hl, ok, h⟩ := h
  refine ⟨_, (pss_cons (ps_calm (ps_for PassesOwn.never rfl (pi_list (pe_fld (pv 0) rfl)) (pg_name (i := 2) sc_Sorts_sort_of.nd rfl (Or.inl rfl)) (pss_one (ps_if (pt_cmpR (op_eqS hr.units0) (pe_ix ix_tup (pv 2) pe_int (fun _ _ => rfl)) (pv 1) (nomark _)) (pss_one (ps_ret (pe_cal C_sort_from (hr.mono (by decide)) rfl (pa_cons (pv 2) pa_nil)))) pss_nil))))
      (pss_one (ps_raise T.x_NoSort hr.hd (pe_xcal X_NoSort (hr.mono (by decide)) rfl (pa_cons (pv 1) pa_nil))))), ?_⟩
  refine ⟨_, rfl, a, _, dx, _, _, rfl, e, T.o_Sorts.cl, T.n_Sorts_rows, rfl, l, rfl, ⟨_, SqL.of g.at_⟩, ?_⟩
  refine for_list (K := K) (a := l) (xs := xs.map fun q => V.ref q.1) (fun i σ H' => ∃ v2 : Option V, σ = [some (.ref a), some x, v2] ∧ H' = H ∧ ∀ j q, j < i → xs[j]? = some q → V.str q.2.nm ≠ x) ⟨_, rfl, rfl, fun j q z => absurd z (Nat.not_lt_zero j)⟩ (fun i σ H' _ ⟨_, _, eH, _⟩ => by subst eH; exact SqL.of g.at_) ?_ ?_
  · rintro i v σ H' hv ⟨v2, rfl, eH, nj⟩
    subst eH
    rw [List.getElem?_map] at hv
    cases ez : xs[i]? with
    | none => rw [ez] at hv; cases hv
    | some z =>
      rw [ez] at hv
      cases hv
      have m := List.mem_of_getElem? ez
      have mm : z.2 ∈ xs.map (·.2) := List.mem_map_of_mem m
      obtain ⟨pw, ps, a1, a2, a3⟩ := g.sr z m
      refine ⟨_, rfl, z.1, _, _, _, rfl, rfl, SqT.of a1, rfl, _, rfl, ?_⟩
      have next : (V.str z.2.nm ≠ x) → ∀ j q, j < i + 1 → xs[j]? = some q → V.str q.2.nm ≠ x := fun nz j q hj hq => by
        by_cases c : j = i
        · subst c
          rw [ez] at hq
          cases hq
          exact nz
        · exact nj j q (by omega) hq
      rcases h with ⟨r, hr, rfl, un, q⟩ | ⟨hn, qE⟩
      · refine ⟨_, rfl, .inl ⟨_, rfl, _, rfl, ?_⟩⟩
        refine ite2 (fun c => ?_) (fun c => ?_)
        · have c' : z.2.nm = r.nm := of_decide_eq_true c
          have er := un z.2 mm c'
          refine ⟨_, rfl, z.1, z.2, rfl, g.sr z m, ok _ mm, fun b H2 s2 hb => q b H2 s2 (by rw [← er]; exact hb)⟩
        · have c' : ¬ z.2.nm = r.nm := of_decide_eq_false (Bool.eq_false_iff.mpr c)
          exact ⟨_, rfl, rfl, next fun w => c' (by injection w)⟩
      · refine hn.eqS mm ⟨_, rfl, ?_⟩
        refine iteF ⟨_, rfl, rfl, next fun w => ?_⟩
        rcases hn with ⟨y, rfl, hy⟩ | (rfl | ⟨b, rfl⟩ | ⟨i, rfl⟩) | ⟨p, o, rfl, _⟩
        · injection w with w
          exact hy _ mm w
        · cases w
        · cases w
        · cases w
        · cases w
  · rintro σ H' ⟨v2, rfl, eH, nj⟩
    subst eH
    rcases h with ⟨r, hr, rfl, un, q⟩ | ⟨hn, qE⟩
    · obtain ⟨z, hz, rfl⟩ := List.mem_map.mp hr
      obtain ⟨j, hj, ej⟩ := List.getElem_of_mem hz
      exact absurd rfl (nj j z (by rw [List.length_map]; exact hj) (by rw [List.getElem?_eq_getElem hj, ej]))
    · exact ⟨_, rfl, _, rfl, raise_told (Same.refl _) qE⟩
theorem set_ok {rs : List SR} {i : Nat} {r r' : SR} (h : RsOk rs) (hi : rs[i]? = some r) (en : r'.nm = r.nm) (ok : r'.Ok) : RsOk (rs.set i r') where
  l0 := by rw [List.length_set]; exact h.l0
  l1 := by rw [List.length_set]; exact h.l1
  ok := fun s hs => by
    rcases List.mem_or_eq_of_mem_set hs with z | z
    · exact h.ok s z
    · rw [z]
      exact ok
  nd := fun a b s t ha hb e => by
    have get : ∀ {j : Nat} {s : SR}, (rs.set i r')[j]? = some s → ∃ s0, rs[j]? = some s0 ∧ s0.nm = s.nm := fun {j s} hj => by
      rw [List.getElem?_set] at hj
      by_cases c : i = j
      · subst c
        rw [if_pos rfl] at hj
        split at hj
        · cases hj
          exact ⟨r, hi, en.symm⟩
        · cases hj
      · rw [if_neg c] at hj
        exact ⟨s, hj, rfl⟩
    obtain ⟨s0, h1, h2⟩ := get ha
    obtain ⟨t0, h3, h4⟩ := get hb
    exact h.nd a b s0 t0 h1 h3 (by rw [h2, h4, e])
theorem sc_Sorts_with_speed : FnScope ["self", "name", "speed", "changed", "changed_row"] ["self", "name", "speed"] (defScope s_Sorts_with_speed) := ⟨rfl, rfl, rfl, by decide +kernel, rfl, by decide +kernel, by decide +kernel⟩
theorem ok_Sorts_with_speed (D : Mfn K "with_speed" "Sorts.with_speed" s_Sorts_with_speed ["self", "name", "speed"] f fd) (T : Txt K mg c_WaitError c_NoWeight c_NoSorts c_NoSort c_Over c_Piece c_Held c_Waiting c_Done c_GivenUp c_CalledOff c_Missed c_Sort c_Sorts) (C_is_weight : Cal P w K mg base "is_weight" 2 ["thing"] (spIsW K)) (X_NoWeight : XCal0 K mg "NoWeight" c_NoWeight) (K_Sorts : MakG (CX1 P w) P w K mg base "Sorts" c_Sorts 7 (spStMk K c_Sorts c_NoSorts)) (M_sort_of : MOk (CX1 P w) P w K mg base 7 c_Sorts "sort_of" (spSortOf K c_Sort c_Sorts c_NoSort)) : FnOk P w K mg base (CX1 P w) 9 f fd ["self", "name", "speed"] (spSpeed K c_Sorts c_NoSort c_NoWeight) := by
  refine D.F.ok1 sc_Sorts_with_speed (fun vs H Q E h => ?_) (fun cdv A outer s H vs Q E hr h => ?_)
  · obtain ⟨a, rs, x, y, rfl, _⟩ := h
    rfl
  obtain ⟨a, rs, x, y, rfl, hst, ro, lw, h⟩ := h
  have hst' := hst
  obtain ⟨dx, l, xs, e, g, exs⟩ := hst'
  have sz : (1000 : Nat) ≤ sizeLine := by decide
  have lx : xs.length ≤ 8 := by
    have := ro.l1
    rw [← exs, List.length_map] at this
    exact this
  refine ⟨_, (pss_cons (ps_set (i := 3) sc_Sorts_with_speed.nd rfl (Or.inl rfl) (pe_mth (k := 7) (pv 0) (hr.mono (by decide)) passes1 (pa_cons (pv 1) pa_nil)))
      (pss_cons (ps_if (pt_not (pt_val (pe_cal C_is_weight (hr.mono (by decide)) rfl (pa_cons (pv 2) pa_nil)))) (pss_one (ps_raise T.x_NoWeight hr.hd (pe_xcal0 X_NoWeight rfl))) pss_nil)
      (pss_cons (ps_set (i := 4) sc_Sorts_with_speed.nd rfl (Or.inr rfl) (pe_tupS (pai (pai_cons (pe_fld (pv 3) rfl) (pai_cons (pe_fld (pv 3) rfl) (pai_cons (pv 2) (pai_cons (pe_fld (pv 3) rfl) (pai_cons (pe_fld (pv 3) rfl) pai_nil))))))))
      (pss_one (ps_ret (pe_makG K_Sorts (hr.mono (by decide)) rfl passes1 (pa_cons (pe_comp (N := ["row", "name", "changed_row"]) (js := [1, 4]) rfl (CompScope.of rfl rfl rfl rfl rfl (by decide +kernel) rfl rfl rfl rfl) (pi_list (pe_fld (pv 0) rfl)) (fun _ _ _ _ _ => ct_nil) (fun _ _ _ _ _ => (pe_ifExp (pt_cmpR op_eq (pe_ix (r := rIxT K) ix_tup (pv 0) pe_int (fun _ _ => rfl)) (pv 1) (nomark _)) (pv 2) (pv 0)))) pa_nil))))))), ?_⟩
  refine ⟨_, rfl, a, _, dx, _, _, rfl, e, rfl, M_sort_of, _, rfl, a, rs, x, rfl, hst, ro.l1, ro.ok, ?_⟩
  rcases h with ⟨i, r, hi, rfl, h⟩ | ⟨hn, qE⟩
  · have mr := List.mem_of_getElem? hi
    have okr := ro.ok r mr
    have un : ∀ s, s ∈ rs → s.nm = r.nm → s = r := fun s hs es => by
      obtain ⟨j, hj, ej⟩ := List.getElem_of_mem hs
      have ej' : rs[j]? = some s := by rw [List.getElem?_eq_getElem hj, ej]
      have := ro.nd j i s r ej' hi es
      subst this
      rw [hi] at ej'
      cases ej'
      rfl
    refine .inl ⟨r, mr, rfl, un, fun b H1 s1 hb => ?_⟩
    rw [lw r mr] at hb
    obtain ⟨bdx, pw, ps, b1, b2, b3⟩ := hb
    rcases h with ⟨p, c, d, rfl, hp, c0, c1, d0, d1, q⟩ | ⟨hw, qE⟩
    · have hp1 := s1 _ _ hp
      refine ⟨_, rfl, _, true, rfl, .inl ⟨p, _, _, true, true, rfl, hp1, SR.Ok.wh c0 c1, SR.Ok.wh d0 d1, rfl⟩, _, rfl, iteF ?_⟩
      have O := T.o_Sort
      refine ⟨_, rfl, b, _, bdx, _, _, rfl, b1, O.cl, T.n_Sort_name, rfl, _, rfl, b, _, bdx, _, _, rfl, b1, O.cl, T.n_Sort_weight, rfl, _, rfl, _, rfl, b, _, bdx, _, _, rfl, b1, O.cl, T.n_Sort_span, rfl, _, rfl, b, _, bdx, _, _, rfl, b1, O.cl, T.n_Sort_tries, rfl, (by show 5 ≤ sizeLine; decide), fun t H2 s2 n2 h2 => ?_⟩
      have g2 := (g.same s1).same s2
      have ok' : ({ r with c := c, d := d } : SR).Ok := { okr with c0 := c0, c1 := c1, d0 := d0, d1 := d1 }
      have hrow : IsSR H2 t { r with c := c, d := d } := ⟨pw, p, h2, s2 _ _ b2, s2 _ _ hp1⟩
      refine ⟨_, rfl, a, _, dx, _, _, rfl, s2 _ _ (s1 _ _ e), T.o_Sorts.cl, T.n_Sorts_rows, rfl, l, rfl, ⟨_, SqL.of g2.at_⟩, comp_srs (rs.set i { r with c := c, d := d }) (SqL.of g2.at_) (by rw [List.length_set, List.length_map, ← exs, List.length_map]) (fun j v Hh Q' hv s3 q' => q' Hh (Same.refl Hh)) (fun j v r' Hh Q' hv hr s3 q' => ?_) (by rw [List.length_map]; omega) (fun D H3 zs s3 nD hD ez => ?_)⟩
      · rw [List.getElem?_map] at hv
        cases ez : xs[j]? with
        | none => rw [ez] at hv; cases hv
        | some z =>
          rw [ez] at hv
          cases hv
          have hz := (g2.sr z (List.mem_of_getElem? ez)).same s3
          have hz' := hz
          obtain ⟨w1, w2, z1, z2, z3⟩ := hz'
          have ej : rs[j]? = some z.2 := by rw [← exs, List.getElem?_map, ez]; rfl
          refine ⟨_, rfl, z.1, _, _, _, rfl, rfl, SqT.of z1, rfl, _, rfl, rfl, _, rfl, ?_⟩
          rw [List.getElem?_set] at hr
          by_cases cj : i = j
          · subst cj
            rw [hi] at ej
            cases ej
            rw [if_pos rfl, if_pos (List.getElem?_eq_some_iff.mp hi).1] at hr
            cases hr
            rw [decide_eq_true rfl]
            exact iteT ⟨_, rfl, q' t Hh (Same.refl Hh) (hrow.same s3)⟩
          · rw [if_neg cj, ej] at hr
            cases hr
            rw [decide_eq_false (show ¬ V.str z.2.nm = V.str r.nm from fun w => cj (ro.nd i j r z.2 hi ej (by injection w with w; exact w.symm)))]
            exact iteF ⟨_, rfl, q' z.1 Hh (Same.refl Hh) hz⟩
      · refine ⟨_, rfl, .inl ⟨D, zs, rfl, hD, by rw [ez]; exact set_ok ro hi rfl ok', fun b' H4 s4 h4 => q b' H4 (((s1.trans s2).trans s3).trans s4) ?_⟩⟩
        rw [← ez, List.map_map]
        exact h4
    · exact ⟨_, rfl, _, false, rfl, hw.same s1, _, rfl, iteT (raise_bare s1 qE)⟩
  · exact .inr ⟨hn, qE⟩
structure Ct where
  n : Int
  a : Int
  b : Int
  c : Int
  d : Int
  came : Int
def IsCt (H : Hp) (t : Addr) (k : Ct) : Prop := ∃ pw ps, H t = some (.tup [.int k.n, .ref pw, .ref ps, .int k.came]) ∧ H pw = some (.tup [.int k.a, .int k.b]) ∧ H ps = some (.tup [.int k.c, .int k.d])
theorem IsCt.same {H H' : Hp} {t : Addr} {k : Ct} (s : Same H H') (h : IsCt H t k) : IsCt H' t k := let ⟨pw, ps, a, b, c⟩ := h; ⟨pw, ps, s _ _ a, s _ _ b, s _ _ c⟩
def ctOf (p : Pv) (r : SR) : Ct := ⟨p.n, r.a, r.b, r.c, r.d, p.came⟩
def Finds (rs : List SR) (nm : Str) (r : SR) : Prop := r ∈ rs ∧ r.nm = nm ∧ ∀ s, s ∈ rs → s.nm = nm → s = r
def spClaim (K : PySem.W.Frag) (cs : CsA) (ct cN : Addr) : Sp := fun vs H Q E => ∃ (a s : Addr) (d : Wd) (p : Pv) (rs : List SR), vs = [.ref a, .ref s] ∧ IsPc cs H a d p ∧ IsSt ct H s rs ∧ rs.length ≤ 8 ∧ (∀ r, r ∈ rs → r.Ok) ∧
  ((∃ r, Finds rs p.nm r ∧ ∀ t H', Same H H' → IsCt H' t (ctOf p r.low) → Q (.ref t) H') ∨ ((∀ r, r ∈ rs → r.nm ≠ p.nm) ∧ ∀ b H', Same H H' → Told K H' b cN "name" (.str p.nm) → E (.ref cN) (some b) H'))
def spChore (K : PySem.W.Frag) (cs : CsA) (ct cN : Addr) : Sp := fun vs H Q E => ∃ (a s : Addr) (d : Wd) (p : Pv) (rs : List SR), vs = [.ref a, .ref s] ∧ IsPc cs H a d p ∧ p.Ok ∧ IsSt ct H s rs ∧ rs.length ≤ 8 ∧ (∀ r, r ∈ rs → r.Ok) ∧
  ((∃ r, Finds rs p.nm r ∧ ∀ t u H', Same H H' → H' u = some (.tup [.ref t, .int (p.left d)]) → IsCt H' t (ctOf p r.low) → Q (.ref u) H') ∨ ((∀ r, r ∈ rs → r.nm ≠ p.nm) ∧ ∀ b H', Same H H' → Told K H' b cN "name" (.str p.nm) → E (.ref cN) (some b) H'))
theorem sc_claim_of : FnScope ["piece", "sorts", "sort"] ["piece", "sorts"] (defScope s_claim_of) := ⟨rfl, rfl, rfl, by decide +kernel, rfl, by decide +kernel, by decide +kernel⟩
theorem ok_claim_of (D : Dfn K mg "claim_of" s_claim_of ["piece", "sorts"] f fd) (T : Txt K mg c_WaitError c_NoWeight c_NoSorts c_NoSort c_Over c_Piece c_Held c_Waiting c_Done c_GivenUp c_CalledOff c_Missed c_Sort c_Sorts) (M_sort_of : MOk (CX1 P w) P w K mg base 7 c_Sorts "sort_of" (spSortOf K c_Sort c_Sorts c_NoSort)) : Cal1 P w K mg base "claim_of" 8 ["piece", "sorts"] (spClaim K (CsA.mk c_Held c_Waiting c_Done c_GivenUp c_CalledOff c_Missed) c_Sorts c_NoSort) := by
  refine D.cal1 (D.F.ok1 sc_claim_of (fun vs H Q E h => ?_) (fun cdv A outer s H vs Q E hr h => ?_))
  · obtain ⟨a, s, d, p, rs, rfl, _⟩ := h
    rfl
  obtain ⟨a, s, d, p, rs, rfl, ⟨dx, e⟩, hst, hl, ok, h⟩ := h
  have S := six_of T
  have hst' := hst
  obtain ⟨sdx, l, xs, es, _, _⟩ := hst'
  refine ⟨_, (pss_cons (ps_set (i := 2) sc_claim_of.nd rfl (Or.inl rfl) (pe_mth (k := 7) (pv 1) (hr.mono (by decide)) passes1 (pa_cons (pe_fld (pv 0) rfl) pa_nil)))
      (pss_one (ps_ret (pe_tupS (pai (pai_cons (pe_fld (pv 0) rfl) (pai_cons (pe_fld (pv 2) rfl) (pai_cons (pe_fld (pv 2) rfl) (pai_cons (pe_fld (pv 0) rfl) pai_nil))))))))), ?_⟩
  refine ⟨_, rfl, s, _, sdx, _, _, rfl, es, rfl, M_sort_of, _, rfl, a, _, dx, _, _, rfl, e, (S.ow d).cl, S.n2 d, rfl, s, rs, .str p.nm, rfl, hst, hl, ok, ?_⟩
  rcases h with ⟨r, ⟨hr, en, un⟩, q⟩ | ⟨hn, qE⟩
  · refine .inl ⟨r, hr, by rw [en], fun z hz ez => un z hz (by rw [ez, en]), fun b H1 s1 hb => ?_⟩
    obtain ⟨bdx, pw, ps, b1, b2, b3⟩ := hb
    have e1 := s1 _ _ e
    have O := T.o_Sort
    refine ⟨_, rfl, a, _, dx, _, _, rfl, e1, (S.ow d).cl, S.n1 d, rfl, _, rfl, b, _, bdx, _, _, rfl, b1, O.cl, T.n_Sort_weight, rfl, _, rfl, b, _, bdx, _, _, rfl, b1, O.cl, T.n_Sort_speed, rfl, _, rfl, a, _, dx, _, _, rfl, e1, (S.ow d).cl, S.n3 d, rfl, sz 4 (by decide), fun t H2 s2 n2 h2 => q t H2 (s1.trans s2) ⟨pw, ps, h2, s2 _ _ b2, s2 _ _ b3⟩⟩
  · exact .inr ⟨.inl ⟨_, rfl, hn⟩, qE⟩
theorem sc_chore_of : FnScope ["piece", "sorts"] ["piece", "sorts"] (defScope s_chore_of) := ⟨rfl, rfl, rfl, by decide +kernel, rfl, by decide +kernel, by decide +kernel⟩
theorem ok_chore_of (D : Dfn K mg "chore_of" s_chore_of ["piece", "sorts"] f fd) (T : Txt K mg c_WaitError c_NoWeight c_NoSorts c_NoSort c_Over c_Piece c_Held c_Waiting c_Done c_GivenUp c_CalledOff c_Missed c_Sort c_Sorts) (C_claim_of : Cal1 P w K mg base "claim_of" 8 ["piece", "sorts"] (spClaim K (CsA.mk c_Held c_Waiting c_Done c_GivenUp c_CalledOff c_Missed) c_Sorts c_NoSort)) (M_work_left : ∀ d, MOk CX0 P w K mg base 2 (CsA.cl (CsA.mk c_Held c_Waiting c_Done c_GivenUp c_CalledOff c_Missed) d) "work_left" (spLeft (CsA.mk c_Held c_Waiting c_Done c_GivenUp c_CalledOff c_Missed))) : Cal1 P w K mg base "chore_of" 9 ["piece", "sorts"] (spChore K (CsA.mk c_Held c_Waiting c_Done c_GivenUp c_CalledOff c_Missed) c_Sorts c_NoSort) := by
  refine D.cal1 (D.F.ok1 sc_chore_of (fun vs H Q E h => ?_) (fun cdv A outer s H vs Q E hr h => ?_))
  · obtain ⟨a, s, d, p, rs, rfl, _⟩ := h
    rfl
  obtain ⟨a, s, d, p, rs, rfl, ⟨dx, e⟩, po, hst, hl, ok, h⟩ := h
  refine ⟨_, (pss_one (ps_ret (pe_tupS (pa_cons (pe_cal1 C_claim_of passes1 (hr.mono (by decide)) rfl (pa_cons (pv 0) (pa_cons (pv 1) pa_nil))) (pa_cons (pe_mth0 (k := 2) (pv 0) (hr.mono (by decide)) pass0) pa_nil))))), ?_⟩
  refine ⟨_, rfl, _, rfl, a, s, d, p, rs, rfl, ⟨dx, e⟩, hst, hl, ok, ?_⟩
  rcases h with ⟨r, hr, q⟩ | ⟨hn, qE⟩
  · refine .inl ⟨r, hr, fun t H1 s1 h1 => ?_⟩
    have e1 := s1 _ _ e
    exact ⟨_, rfl, a, _, dx, _, _, rfl, e1, rfl, M_work_left d, a, d, p, rfl, ⟨dx, e1⟩, po, sz 2 (by decide), fun u H2 s2 n2 h2 => q t u H2 (s1.trans s2) h2 (h1.same s2)⟩
  · exact .inr ⟨hn, qE⟩
theorem pow40 : (2 : Int) ^ (40 : Int).toNat = 1099511627776 := by decide
def spCell (K : PySem.W.Frag) : Sp := fun vs H Q _ => ∃ (a : Addr) (ns : List Int) (k : Int), vs = [.ref a, .int k] ∧ SqL K H a (ns.map V.int) ∧ 0 ≤ k ∧ ∀ v : Int, Q (.int v) H
def spMix : Sp := fun vs H Q _ => ∃ x k : Int, vs = [.int x, .int k] ∧ ∀ r : Int, 0 ≤ r → Q (.int r) H
def spDraw : Sp := fun vs H Q _ => ∃ x k : Int, vs = [.int x, .int k] ∧ 0 ≤ k ∧ ∀ r : Int, 0 ≤ r → Q (.int r) H
theorem sc_law_cell : FnScope ["_law_script", "_law_k"] ["_law_script", "_law_k"] (defScope s_law_cell) := ⟨rfl, rfl, rfl, by decide +kernel, rfl, by decide +kernel, by decide +kernel⟩
theorem ok_law_cell (D : Dfn K mg "_law_cell" s_law_cell ["_law_script", "_law_k"] f fd) (T : Txt K mg c_WaitError c_NoWeight c_NoSorts c_NoSort c_Over c_Piece c_Held c_Waiting c_Done c_GivenUp c_CalledOff c_Missed c_Sort c_Sorts) : Cal P w K mg base "_law_cell" 1 ["_law_script", "_law_k"] (spCell K) := by
  refine D.cal (D.F.ok sc_law_cell (fun vs H Q E h => ?_) (fun cdv A outer s H vs Q E hr h => ?_))
  · obtain ⟨a, ns, k, rfl, _⟩ := h
    rfl
  obtain ⟨a, ns, k, rfl, hS, k0, q⟩ := h
  refine ⟨_, (pss_cons (ps_if (pt_cmpR op_lt (pv 1) (pe_callB call_len_seq rfl T.b_len bt_len (pa_cons (pv 0) pa_nil)) (nomark _)) (pss_one (ps_ret (pe_ix ix_list (pv 0) (pv 1) (fun _ _ => rfl)))) pss_nil)
      (pss_one (ps_ret (pe_op op_add (pe_op op_mul pe_int (pv 1)) pe_int)))), ?_⟩
  refine ⟨_, rfl, _, rfl, a, _, rfl, .inl hS, _, _, rfl, rfl, _, rfl, ?_⟩
  refine ite2 (fun c => ?_) (fun c => ?_)
  · have c' : k < (((ns.map V.int).length : Nat) : Int) := of_decide_eq_true c
    rw [List.length_map] at c'
    have hk : k.toNat < ns.length := by omega
    have z : atI (ns.map V.int) ((k.toNat : Nat) : Int) = some (.int ns[k.toNat]) := atI_nat (by rw [List.getElem?_map, List.getElem?_eq_getElem hk] <;> rfl)
    rw [show ((k.toNat : Nat) : Int) = k by omega] at z
    exact ⟨_, rfl, _, rfl, a, _, _, _, rfl, rfl, hS, z, q _⟩
  · exact ⟨_, rfl, _, _, rfl, rfl, .inl ⟨by decide, by decide⟩, _, _, rfl, rfl, q _⟩
theorem sc_law_mix : FnScope ["_law_cell_here", "_law_k", "_law_number"] ["_law_cell_here", "_law_k"] (defScope s_law_mix) := ⟨rfl, rfl, rfl, by decide +kernel, rfl, by decide +kernel, by decide +kernel⟩
theorem ok_law_mix (D : Dfn K mg "_law_mix" s_law_mix ["_law_cell_here", "_law_k"] f fd) (T : Txt K mg c_WaitError c_NoWeight c_NoSorts c_NoSort c_Over c_Piece c_Held c_Waiting c_Done c_GivenUp c_CalledOff c_Missed c_Sort c_Sorts) : Cal P w K mg base "_law_mix" 1 ["_law_cell_here", "_law_k"] spMix := by
  refine D.cal (D.F.ok sc_law_mix (fun vs H Q E h => ?_) (fun cdv A outer s H vs Q E hr h => ?_))
  · obtain ⟨x, k, rfl, _⟩ := h
    rfl
  obtain ⟨x, k, rfl, q⟩ := h
  refine ⟨_, (pss_cons (ps_set (i := 2) sc_law_mix.nd rfl (Or.inl rfl) (pe_op op_mod (pe_op op_mul (pe_op op_add (pe_op op_add (pe_op op_mod (pv 0) pe_int) (pe_op op_mul pe_int (pv 1))) pe_int) pe_int) pe_int))
      (pss_cons (ps_set (i := 2) sc_law_mix.nd rfl (Or.inl rfl) (pe_op op_mod (pe_op op_mul (pv 2) (pv 2)) pe_int))
      (pss_one (ps_ret (pe_op op_mod (pe_op op_mul (pv 2) (pe_op op_add (pv 2) pe_int)) pe_int))))), ?_⟩
  refine ⟨_, rfl, _, _, rfl, rfl, (by show (0 : Int) < _; decide), _, rfl, _, _, rfl, rfl, .inl ⟨by decide, by decide⟩, _, _, rfl, rfl, _, _, rfl, rfl, _, _, rfl, rfl, .inr ⟨by decide, by decide⟩, _, _, rfl, rfl, (by show (0 : Int) < _; decide), ?_⟩
  have m0 := Int.emod_nonneg ((x % 2147483629 + 7919 * k + 101) * 48271) (show (2147483647 : Int) ≠ 0 by decide)
  have m1 := Int.emod_lt_of_pos ((x % 2147483629 + 7919 * k + 101) * 48271) (show (0 : Int) < 2147483647 by decide)
  dsimp only
  generalize (x % 2147483629 + 7919 * k + 101) * 48271 % 2147483647 = n1 at m0 m1 ⊢
  refine ⟨_, rfl, _, rfl, _, _, rfl, rfl, .inl ⟨by omega, by omega⟩, _, _, rfl, rfl, (by show (0 : Int) < _; decide), ?_⟩
  have m2 := Int.emod_nonneg (n1 * n1) (show (2147483629 : Int) ≠ 0 by decide)
  have m3 := Int.emod_lt_of_pos (n1 * n1) (show (0 : Int) < 2147483629 by decide)
  dsimp only
  generalize n1 * n1 % 2147483629 = n2 at m2 m3 ⊢
  refine ⟨_, rfl, _, rfl, _, _, rfl, rfl, _, _, rfl, rfl, .inl ⟨by omega, by omega⟩, _, _, rfl, rfl, (by show (0 : Int) < _; decide), ?_⟩
  exact q _ (Int.emod_nonneg _ (by decide))
theorem sc_law_draw : FnScope ["_law_cell_here", "_law_k"] ["_law_cell_here", "_law_k"] (defScope s_law_draw) := ⟨rfl, rfl, rfl, by decide +kernel, rfl, by decide +kernel, by decide +kernel⟩
theorem ok_law_draw (D : Dfn K mg "_law_draw" s_law_draw ["_law_cell_here", "_law_k"] f fd) (T : Txt K mg c_WaitError c_NoWeight c_NoSorts c_NoSort c_Over c_Piece c_Held c_Waiting c_Done c_GivenUp c_CalledOff c_Missed c_Sort c_Sorts) (C_law_mix : Cal P w K mg base "_law_mix" 1 ["_law_cell_here", "_law_k"] spMix) : Cal P w K mg base "_law_draw" 2 ["_law_cell_here", "_law_k"] spDraw := by
  refine D.cal (D.F.ok sc_law_draw (fun vs H Q E h => ?_) (fun cdv A outer s H vs Q E hr h => ?_))
  · obtain ⟨x, y, rfl, _⟩ := h
    rfl
  obtain ⟨x, k, rfl, k0, q⟩ := h
  refine ⟨_, (pss_mid (ps_if (PW.pt (pw_and (pt_cmpR op_ge (pv 0) (pe_op op_pow pe_int pe_int) (nomark _)) (pw_and1 (pt_cmpR op_gt (pe_op op_shr (pv 0) (pe_op op_mul pe_int (pv 1))) pe_int (nomark _))))) (pss_one (ps_ret (pe_op op_mod (pe_op op_shr (pv 0) (pe_op op_mul pe_int (pv 1))) (pe_op op_pow pe_int pe_int)))) pss_nil)
      (pss_one (ps_ret (pe_cal C_law_mix (hr.mono (by decide)) rfl (pa_cons (pv 0) (pa_cons (pe_op op_add pe_int (pv 1)) pa_nil)))))), ?_⟩
  refine ⟨fun σ' H' => σ' = [some (.int x), some (.int k)] ∧ H' = H, ?_, ?_⟩
  · refine ⟨_, rfl, _, _, rfl, rfl, ⟨by decide, by decide, by decide⟩, _, _, rfl, rfl, _, rfl, ?_⟩
    refine ite2 (fun c => ?_) (fun c => ?_)
    · refine ⟨_, rfl, _, rfl, _, _, rfl, rfl, .inl ⟨by decide, by decide⟩, _, _, rfl, rfl, by show 0 ≤ 40 * k; omega, _, _, rfl, rfl, _, rfl, ?_⟩
      refine ite2 (fun c2 => ?_) (fun c2 => ?_)
      · refine ⟨_, rfl, _, rfl, _, _, rfl, rfl, .inl ⟨by decide, by decide⟩, _, _, rfl, rfl, by show 0 ≤ 40 * k; omega, _, _, rfl, rfl, ⟨by decide, by decide, by decide⟩, _, _, rfl, rfl, (by show (0 : Int) < _; decide), ?_⟩
        rw [pow40]
        exact q _ (Int.emod_nonneg _ (by decide))
      · exact ⟨rfl, rfl⟩
    · exact ⟨rfl, rfl⟩
  · rintro σ' H' ⟨rfl, rfl⟩
    exact ⟨_, rfl, _, rfl, _, _, rfl, rfl, x, _, rfl, fun r r0 => q r r0⟩
structure Lw (t b : Int) (k : Int) (x y : Int) : Prop where
  x0 : 0 ≤ x
  y0 : 1 ≤ y
  y1 : y ≤ 12
  cr : x * b = t * y
  no : ∀ j, 2 ≤ j → j < k → ¬ (x % j = 0 ∧ y % j = 0)
theorem Lw.div {t b k x y : Int} (h : Lw t b k x y) (k0 : 2 ≤ k) (hx : x % k = 0) (hy : y % k = 0) : Lw t b k (x / k) (y / k) ∧ (y / k).toNat < y.toNat := by
  obtain ⟨u, rfl⟩ := Int.dvd_of_emod_eq_zero hx
  obtain ⟨v, rfl⟩ := Int.dvd_of_emod_eq_zero hy
  have kz : k ≠ 0 := by omega
  rw [Int.mul_ediv_cancel_left u kz, Int.mul_ediv_cancel_left v kz]
  have x0 := h.x0
  have y0 := h.y0
  have y1 := h.y1
  have u0 : 0 ≤ u := by
    rcases Int.lt_or_le u 0 with z | z
    · have := Int.mul_neg_of_pos_of_neg (show 0 < k by omega) z
      omega
    · exact z
  have v0 : 1 ≤ v := by
    rcases Int.lt_or_le v 1 with z | z
    · have := Int.mul_nonpos_of_nonneg_of_nonpos (show 0 ≤ k by omega) (show v ≤ 0 by omega)
      omega
    · exact z
  have vk : 2 * v ≤ k * v := Int.mul_le_mul_of_nonneg_right k0 (by omega)
  refine ⟨⟨u0, v0, by omega, ?_, fun j j0 j1 ⟨a, c⟩ => h.no j j0 j1 ⟨?_, ?_⟩⟩, by omega⟩
  · have e := h.cr
    rw [Int.mul_assoc, Int.mul_left_comm t k v] at e
    exact Int.eq_of_mul_eq_mul_left kz e
  · rw [Int.mul_emod, a, Int.mul_zero]
    rfl
  · rw [Int.mul_emod, c, Int.mul_zero]
    rfl
theorem Lw.next {t b k x y : Int} (h : Lw t b k x y) (n : ¬ (x % k = 0 ∧ y % k = 0)) : Lw t b (k + 1) x y := { h with no := fun j j0 j1 => if e : j = k then by rw [e]; exact n else h.no j j0 (by omega) }
theorem Lw.low {t b x y : Int} (b0 : 1 ≤ b) (h : Lw t b 13 x y) : x = t / M1.gd t b ∧ y = b / M1.gd t b := by
  have y0 := h.y0
  have y1 := h.y1
  have g1 : M1.gd x y = 1 := by
    have p := M1.gd_pos (x := x) (show 0 < y by omega)
    have l := M1.gd_le (x := x) (show 0 < y by omega)
    by_cases e : M1.gd x y = 1
    · exact e
    · exact absurd ⟨Int.emod_eq_zero_of_dvd (M1.gd_dvd_left x y), Int.emod_eq_zero_of_dvd (M1.gd_dvd_right x y)⟩ (h.no (M1.gd x y) (by omega) (by omega))
  have e := M1.low_eq (t := x) (b := y) (u := t) (c := b) (by omega) (by omega) h.cr
  have o := M1.low_one g1
  exact ⟨by rw [← e.1, o.1], by rw [← e.2, o.2]⟩
def spLaw1 : Sp := fun vs H Q _ => ∃ (q : Addr) (t b : Int), vs = [.ref q] ∧ H q = some (.tup [.int t, .int b]) ∧ 0 ≤ t ∧ 1 ≤ b ∧ b ≤ 12 ∧ ∀ p H', Same H H' → H' p = some (.tup [.int (t / M1.gd t b), .int (b / M1.gd t b)]) → Q (.ref p) H'
theorem sc_law_lowest : FnScope ["_law_weight", "_law_top", "_law_bottom", "_law_by"] ["_law_weight"] (defScope s_law_lowest) := ⟨rfl, rfl, rfl, by decide +kernel, rfl, by decide +kernel, by decide +kernel⟩
theorem ok_law_lowest (D : Dfn K mg "_law_lowest" s_law_lowest ["_law_weight"] f fd) (T : Txt K mg c_WaitError c_NoWeight c_NoSorts c_NoSort c_Over c_Piece c_Held c_Waiting c_Done c_GivenUp c_CalledOff c_Missed c_Sort c_Sorts) : Cal P w K mg base "_law_lowest" 1 ["_law_weight"] spLaw1 := by
  refine D.cal (D.F.ok sc_law_lowest (fun vs H Q E h => ?_) (fun cdv A outer s H vs Q E hr h => ?_))
  · obtain ⟨p, t, b, rfl, _⟩ := h
    rfl
  obtain ⟨p, t, b, rfl, hp, t0, b0, b1, q⟩ := h
  refine ⟨_, (pss_cons (ps_asg (pv 0) (pg_tup rfl (pgs_cons (pg_name (i := 1) sc_law_lowest.nd rfl (Or.inl rfl)) (pgs_cons (pg_name (i := 2) sc_law_lowest.nd rfl (Or.inl rfl)) pgs_nil))))
      (pss_cons (ps_for PassesOwn.never rfl (pi_range2 rfl T.b_range (pa_cons pe_int (pa_cons pe_int pa_nil))) (pg_name (i := 3) sc_law_lowest.nd rfl (Or.inl rfl)) (pss_one (ps_while PassesOwn.never (PW.pt (pw_and (pt_cmpR op_eq (pe_op op_mod (pv 1) (pv 3)) pe_int (nomark _)) (pw_and1 (pt_cmpR op_eq (pe_op op_mod (pv 2) (pv 3)) pe_int (nomark _))))) (pss_cons (ps_set (i := 1) sc_law_lowest.nd rfl (Or.inl rfl) (pe_op op_fdivB (pv 1) (pv 3)))
      (pss_one (ps_set (i := 2) sc_law_lowest.nd rfl (Or.inl rfl) (pe_op op_fdivB (pv 2) (pv 3))))))))
      (pss_one (ps_ret (pe_tupS (pa_cons (pv 1) (pa_cons (pv 2) pa_nil))))))), ?_⟩
  refine ⟨_, rfl, p, _, rfl, SqT.of hp, rfl, _, _, rfl, _, _, rfl, rfl, ?_⟩
  refine ⟨2, 13, rfl, ⟨by decide, by decide, by decide, by decide⟩, ?_⟩
  refine for_range (fun i σ H' => ∃ (x y : Int) (v3 : Option V), σ = [some (.ref p), some (.int x), some (.int y), v3] ∧ H' = H ∧ Lw t b (2 + i) x y) ⟨t, b, _, rfl, rfl, ⟨t0, b0, b1, rfl, fun j a c => by omega⟩⟩ ?_ ?_
  · rintro i σ H' hi ⟨x, y, v3, rfl, eH, lw⟩
    subst eH
    have k0 : (2 : Int) ≤ 2 + (i : Int) := by omega
    have hi' : i < 11 := hi
    have kb : (2 : Int) + (i : Int) < 1000000000000000000000000000000000000000000000000000000000000 := by omega
    generalize hk1 : (2 : Int) + (i : Int) = k at lw k0 kb ⊢
    have ek1 : (2 : Int) + ((i + 1 : Nat) : Int) = k + 1 := by omega
    refine while_by (fun σ H2 => ∃ (x y : Int), σ = [some (.ref p), some (.int x), some (.int y), some (.int k)] ∧ H2 = H' ∧ Lw t b k x y)
      (fun σ _ => match σ with | [_, _, some (.int y), _] => y.toNat | _ => 0) ⟨x, y, rfl, rfl, lw⟩ ?_ ?_
    · rintro σ H2 ⟨x, y, rfl, eH, lw⟩
      subst eH
      refine ⟨_, rfl, _, rfl, _, _, rfl, rfl, (show 0 < k by omega), rfl, _, rfl, ?_⟩
      refine ite2 (fun c => ?_) (fun c => ?_)
      · have c' : x % k = 0 := by
          have := of_decide_eq_true c
          injection this
        refine ⟨_, rfl, _, rfl, _, _, rfl, rfl, (show 0 < k by omega), rfl, _, rfl, ?_⟩
        refine ite2 (fun d => ?_) (fun d => ?_)
        · have d' : y % k = 0 := by
            have := of_decide_eq_true d
            injection this
          obtain ⟨l2, l3⟩ := lw.div k0 c' d'
          exact ⟨_, rfl, _, rfl, _, _, rfl, rfl, ⟨show 0 < k by omega, kb⟩, _, rfl, _, rfl, _, _, rfl, rfl, ⟨show 0 < k by omega, kb⟩, ⟨x / k, y / k, rfl, rfl, l2⟩, l3⟩
        · have d' : ¬ y % k = 0 := fun z => d (decide_eq_true (by show V.int (y % k) = V.int 0; rw [z]))
          exact ⟨x, y, _, rfl, rfl, by rw [ek1]; exact lw.next fun z => d' z.2⟩
      · have c' : ¬ x % k = 0 := fun z => c (decide_eq_true (by show V.int (x % k) = V.int 0; rw [z]))
        exact ⟨x, y, _, rfl, rfl, by rw [ek1]; exact lw.next fun z => c' z.1⟩
    · rintro σ H2 Q1 Q2 hq ⟨v, e, v2, e2, i, j, e3, e4, hc, sc, k', ek, h⟩
      refine ⟨v, e, v2, e2, i, j, e3, e4, hc, sc, k', ek, ?_⟩
      cases hk : k' with
      | false =>
        rw [hk] at h
        exact hq _ _ h
      | true =>
        rw [hk] at h
        obtain ⟨v, e, v2, e2, i, j, e3, e4, hc, sc, k', ek, h⟩ := h
        exact ⟨v, e, v2, e2, i, j, e3, e4, hc, sc, k', ek, hq _ _ h⟩
  · rintro σ H' ⟨x, y, v3, rfl, eH, lw⟩
    subst eH
    obtain ⟨e1, e2⟩ := Lw.low b0 (show Lw t b 13 x y from lw)
    refine ⟨_, rfl, _, rfl, sz 2 (by decide), fun r H2 s2 n2 h2 => q r H2 s2 ?_⟩
    rw [← e1, ← e2]
    exact h2
theorem letter8 {m : Int} (h0 : 0 ≤ m) (h1 : m < 8) : atI (Str.ofString "abcdefgh").cps.toList m = some (97 + m.toNat) := by
  have h : m = 0 ∨ m = 1 ∨ m = 2 ∨ m = 3 ∨ m = 4 ∨ m = 5 ∨ m = 6 ∨ m = 7 := by omega
  rcases h with rfl | rfl | rfl | rfl | rfl | rfl | rfl | rfl <;> decide +kernel
theorem len8 : (Str.ofString "abcdefgh").length ≤ sizeLine := by
  have : (Str.ofString "abcdefgh").length = 8 := by decide +kernel
  rw [this]
  decide
def rep (n c : Nat) : Str := ⟨(List.replicate n c).toArray⟩
theorem rep_len (n c : Nat) : (rep n c).length = n := by
  show (List.replicate n c).toArray.size = n
  simp
theorem rep_ok {n c : Nat} (n0 : 1 ≤ n) (n1 : n ≤ 8) (c0 : 97 ≤ c) (c1 : c ≤ 122) : nameL (rep n c).cps.toList = true := by
  unfold nameL rep
  rw [List.toList_toArray, List.length_replicate, decide_eq_true (show 1 ≤ n ∧ n ≤ 8 from ⟨n0, n1⟩), Bool.true_and, List.all_eq_true]
  intro x hx
  rw [(List.mem_replicate.mp hx).2]
  unfold betw
  rw [decide_eq_true c0, decide_eq_true c1]
  rfl
theorem rep_inj {n m a b : Nat} (n0 : 1 ≤ n) (e : rep n a = rep m b) : a = b := by
  have e1 : List.replicate n a = List.replicate m b := by
    have := congrArg (fun s : Str => s.cps.toList) e
    simpa [rep] using this
  have : a ∈ List.replicate m b := by
    rw [← e1]
    exact List.mem_replicate.mpr ⟨by omega, rfl⟩
  exact (List.mem_replicate.mp this).2
structure Rws (F : Int) (i : Nat) (xs : List (Addr × SR)) : Prop where
  len : xs.length = i
  at_ : ∀ (j : Nat) q, xs[j]? = some q → q.2.Ok ∧ ∃ n, 1 ≤ n ∧ q.2.nm = rep n (97 + ((F + 3 * (j : Int)) % 8).toNat)
theorem Rws.push {F : Int} {i : Nat} {xs : List (Addr × SR)} {q : Addr × SR} {n : Nat} (h : Rws F i xs) (ok : q.2.Ok) (n0 : 1 ≤ n) (en : q.2.nm = rep n (97 + ((F + 3 * (i : Int)) % 8).toNat)) : Rws F (i + 1) (xs ++ [q]) where
  len := by rw [List.length_append, h.len]; rfl
  at_ := fun j r hj => by
    by_cases c : j < xs.length
    · rw [List.getElem?_append_left c] at hj
      exact h.at_ j r hj
    · rw [List.getElem?_append_right (by omega)] at hj
      have : j - xs.length = 0 := by
        have := (List.getElem?_eq_some_iff.mp hj).1
        simp at this
        omega
      rw [this] at hj
      cases hj
      have l := h.len
      have : j = i := by omega
      subst this
      exact ⟨ok, n, n0, en⟩
theorem Rws.ok {F : Int} {i : Nat} {xs : List (Addr × SR)} (h : Rws F i xs) (i0 : 1 ≤ i) (i1 : i ≤ 8) : RsOk (xs.map (·.2)) where
  l0 := by rw [List.length_map, h.len]; exact i0
  l1 := by rw [List.length_map, h.len]; exact i1
  ok := fun r hr => by
    obtain ⟨q, hq, rfl⟩ := List.mem_map.mp hr
    obtain ⟨j, hj, ej⟩ := List.getElem_of_mem hq
    exact (h.at_ j q (by rw [List.getElem?_eq_getElem hj, ej])).1
  nd := fun a b r s ha hb e => by
    rw [List.getElem?_map] at ha hb
    cases ea : xs[a]? with
    | none => rw [ea] at ha; cases ha
    | some qa =>
    cases eb : xs[b]? with
    | none => rw [eb] at hb; cases hb
    | some qb =>
    rw [ea] at ha
    rw [eb] at hb
    cases ha
    cases hb
    obtain ⟨_, n, n0, en⟩ := h.at_ a qa ea
    obtain ⟨_, m, m0, em⟩ := h.at_ b qb eb
    rw [en, em] at e
    have z := rep_inj n0 e
    have la := (List.getElem?_eq_some_iff.mp ea).1
    have lb := (List.getElem?_eq_some_iff.mp eb).1
    have l := h.len
    omega
def spRows (K : PySem.W.Frag) : Sp := fun vs H Q _ => ∃ (a : Addr) (ns : List Int), vs = [.ref a] ∧ SqL K H a (ns.map V.int) ∧ ∀ l xs H', Same H H' → H l = none → IsSRs H' l xs → RsOk (xs.map (·.2)) → Q (.ref l) H'
theorem sc_law_rows : FnScope ["_law_script", "_law_letters", "_law_first", "_law_rows_here", "_law_k", "_law_number", "_law_name", "_law_weight"] ["_law_script"] (defScope s_law_rows) := ⟨rfl, rfl, rfl, by decide +kernel, rfl, by decide +kernel, by decide +kernel⟩
theorem ok_law_rows (D : Dfn K mg "_law_rows" s_law_rows ["_law_script"] f fd) (T : Txt K mg c_WaitError c_NoWeight c_NoSorts c_NoSort c_Over c_Piece c_Held c_Waiting c_Done c_GivenUp c_CalledOff c_Missed c_Sort c_Sorts) (C_law_cell : Cal P w K mg base "_law_cell" 1 ["_law_script", "_law_k"] (spCell K)) (C_law_draw : Cal P w K mg base "_law_draw" 2 ["_law_cell_here", "_law_k"] spDraw) : Cal P w K mg base "_law_rows" 3 ["_law_script"] (spRows K) := by
  refine D.cal (D.F.ok sc_law_rows (fun vs H Q E h => ?_) (fun cdv A outer s H vs Q E hr h => ?_))
  · obtain ⟨a, ns, rfl, _⟩ := h
    rfl
  obtain ⟨a, ns, rfl, hS, q⟩ := h
  refine ⟨_, (pss_cons (ps_set (i := 1) sc_law_rows.nd rfl (Or.inl rfl) pe_str)
      (pss_cons (ps_set (i := 2) sc_law_rows.nd rfl (Or.inl rfl) (pe_cal C_law_draw (hr.mono (by decide)) rfl (pa_cons (pe_cal C_law_cell (hr.mono (by decide)) rfl (pa_cons (pv 0) (pa_cons pe_int pa_nil))) (pa_cons pe_int pa_nil))))
      (pss_cons (ps_set (i := 3) sc_law_rows.nd rfl (Or.inl rfl) (pe_lstS pa_nil))
      (pss_cons (ps_for PassesOwn.never rfl (pi_range1 rfl T.b_range (pa_cons (pe_op op_add pe_int (pe_op op_mod (pv 2) pe_int)) pa_nil)) (pg_name (i := 4) sc_law_rows.nd rfl (Or.inl rfl)) (pss_cons (ps_set (i := 5) sc_law_rows.nd rfl (Or.inl rfl) (pe_cal C_law_draw (hr.mono (by decide)) rfl (pa_cons (pe_cal C_law_cell (hr.mono (by decide)) rfl (pa_cons (pv 0) (pa_cons (pe_op op_add pe_int (pv 4)) pa_nil))) (pa_cons pe_int pa_nil))))
      (pss_cons (ps_set (i := 6) sc_law_rows.nd rfl (Or.inl rfl) (pe_op op_repT (pe_ix ix_str (pv 1) (pe_op op_mod (pe_op op_add (pe_op op_fdiv (pv 2) pe_int) (pe_op op_mul pe_int (pv 4))) pe_int) (fun _ _ => rfl)) (pe_op op_add pe_int (pe_op op_mod (pe_op op_add (pe_op op_fdiv (pv 2) pe_int) (pv 4)) pe_int))))
      (pss_cons (ps_set (i := 7) sc_law_rows.nd rfl (Or.inl rfl) (pe_tupS (pa_cons (pe_op op_mod (pv 5) pe_int) (pa_cons (pe_op op_add pe_int (pe_op op_mod (pe_op op_fdiv (pv 5) pe_int) pe_int)) pa_nil))))
      (pss_mid (ps_if (pt_cmpR op_eq (pe_op op_mod (pe_op op_fdiv (pv 5) pe_int) pe_int) pe_int (nomark _)) (pss_one (ps_set (i := 7) sc_law_rows.nd rfl (Or.inl rfl) (pe_tupS (pa_cons (pe_op op_mod (pe_op op_fdiv (pv 5) pe_int) pe_int) (pa_cons (pe_op op_add pe_int (pe_op op_mod (pe_op op_fdiv (pv 5) pe_int) pe_int)) pa_nil))))) pss_nil)
      (pss_one (ps_expr (pe_bm PySem.F.plainAttrs_list PySem.F.slot_list_append PySem.F.type_list_append mt_appendS (pv 3) (pa_cons (pe_tupS (pai (pai_cons (pv 6) (pai_cons (pv 7) (pai_cons (pe_tupS (pa_cons (pe_op op_mod (pe_op op_fdiv (pv 5) pe_int) pe_int) (pa_cons (pe_op op_add pe_int (pe_op op_mod (pe_op op_fdiv (pv 5) pe_int) pe_int)) pa_nil))) (pai_cons (pe_op op_add pe_int (pe_op op_mod (pv 4) pe_int)) (pai_cons (pe_op op_add pe_int (pe_op op_mod (pv 4) pe_int)) pai_nil))))))) pa_nil)))))))))
      (pss_one (ps_ret (pv 3))))))), ?_⟩
  refine ⟨_, rfl, a, ns, _, rfl, hS, by decide, fun cell => ⟨cell, _, rfl, by decide, fun n n0 => ?_⟩⟩
  refine ⟨sz 0 (by decide), fun l H1 s1 n1 h1 => ?_⟩
  refine ⟨_, rfl, _, _, rfl, rfl, (by show (0 : Int) < _; decide), _, _, rfl, rfl, _, rfl, by omega, by omega, ?_⟩
  have F0 : 0 ≤ n / 8 := by omega
  refine for_range (fun i σ H2 => ∃ (v4 v5 v6 v7 : Option V) (xs : List (Addr × SR)), σ = [some (.ref a), some (.str (Str.ofString "abcdefgh")), some (.int n), some (.ref l), v4, v5, v6, v7] ∧ Same H H2 ∧ IsSRs H2 l xs ∧ Rws (n / 8) i xs)
    ⟨_, _, _, _, [], rfl, s1, ⟨h1, fun q hq => by simp at hq⟩, ⟨rfl, fun j q hq => by simp at hq⟩⟩ ?_ ?_
  · rintro i σ H2 hi ⟨v4, v5, v6, v7, xs, rfl, s2, hx, rw2⟩
    have hi' : (i : Int) < 1 + n % 8 := by omega
    refine ⟨_, rfl, _, rfl, _, _, rfl, rfl, a, ns, _, rfl, s2.seq hS, by show 0 ≤ 1 + (0 + (i : Int)); omega, fun cell2 => ⟨cell2, _, rfl, by decide, fun m m0 => ?_⟩⟩
    refine ⟨_, rfl, _, rfl, _, _, rfl, rfl, ⟨by decide, by decide⟩, _, rfl, _, _, rfl, rfl, .inl ⟨by decide, by decide⟩, _, _, rfl, rfl, _, _, rfl, rfl, (by show (0 : Int) < _; decide), _, _, _, rfl, rfl, len8, letter8 (by omega) (by omega), ?_⟩
    refine ⟨_, rfl, _, _, rfl, rfl, ⟨by decide, by decide⟩, _, rfl, _, _, rfl, rfl, _, _, rfl, rfl, (by show (0 : Int) < _; decide), _, _, rfl, rfl, _, _, rfl, rfl, by omega, by omega, ?_⟩
    refine ⟨_, rfl, _, _, rfl, rfl, (by show (0 : Int) < _; decide), _, rfl, _, _, rfl, rfl, ⟨by decide, by decide⟩, _, _, rfl, rfl, (by show (0 : Int) < _; decide), _, _, rfl, rfl, sz 2 (by decide), fun p3 H3 s3 n3 h3 => ?_⟩
    have hx3 := hx.same s3
    refine ⟨fun σ' H' => ∃ (p : Addr) (t b : Int), σ' = [some (.ref a), some (.str (Str.ofString "abcdefgh")), some (.int n), some (.ref l), some (.int (0 + (i : Int))), some (.int m), some (.str (rep (1 + (n / 64 + (0 + (i : Int))) % 8).toNat (97 + ((n / 8 + 3 * (0 + (i : Int))) % 8).toNat))), some (.ref p)] ∧ Same H2 H' ∧ H' p = some (.tup [.int t, .int b]) ∧ 0 ≤ t ∧ t ≤ 1000000 ∧ 1 ≤ b ∧ b ≤ 12, ?_, ?_⟩
    · refine ⟨_, rfl, _, _, rfl, rfl, ⟨by decide, by decide⟩, _, _, rfl, rfl, (by show (0 : Int) < _; decide), rfl, _, rfl, ?_⟩
      refine ite2 (fun c => ?_) (fun c => ?_)
      · exact ⟨_, rfl, _, _, rfl, rfl, ⟨by decide, by decide⟩, _, _, rfl, rfl, (by show (0 : Int) < _; decide), _, rfl, _, _, rfl, rfl, ⟨by decide, by decide⟩, _, _, rfl, rfl, (by show (0 : Int) < _; decide), _, _, rfl, rfl, sz 2 (by decide), fun p4 H4 s4 n4 h4 => ⟨p4, _, _, rfl, s3.trans s4, h4, by omega, by omega, by omega, by omega⟩⟩
      · exact ⟨p3, _, _, rfl, s3, h3, by omega, by omega, by omega, by omega⟩
    · rintro σ' H4 ⟨p, t, b, rfl, s4, hp, t0, t1, b0, b1⟩
      have hx4 := hx.same s4
      refine ⟨_, rfl, .inl ⟨rfl, _, SqL.of hx4.at_⟩, _, rfl, _, rfl, _, rfl, _, _, rfl, rfl, ⟨by decide, by decide⟩, _, _, rfl, rfl, (by show (0 : Int) < _; decide), _, rfl, _, _, rfl, rfl, ⟨by decide, by decide⟩, _, _, rfl, rfl, (by show (0 : Int) < _; decide), _, _, rfl, rfl, sz 2 (by decide), fun p5 H5 s5 n5 h5 => ?_⟩
      refine ⟨_, rfl, _, _, rfl, rfl, (by show (0 : Int) < _; decide), _, _, rfl, rfl, _, rfl, _, _, rfl, rfl, (by show (0 : Int) < _; decide), _, _, rfl, rfl, sz 5 (by decide), fun p6 H6 s6 n6 h6 => ?_⟩
      have hx6 := (hx4.same s5).same s6
      refine ⟨l, _, _, rfl, rfl, hx6.at_, small1000 (by rw [List.length_map, rw2.len]; omega), fun H7 k7 h7 => ?_⟩
      obtain ⟨R, eR⟩ : ∃ R : SR, R = ⟨rep (1 + (n / 64 + (0 + (i : Int))) % 8).toNat (97 + ((n / 8 + 3 * (0 + (i : Int))) % 8).toNat), t, b, m / 480 % 27, 1 + m / 9000 % 12, 1 + (0 + (i : Int)) % 4, 1 + (0 + (i : Int)) % 3⟩ := ⟨_, rfl⟩
      have hrow : IsSR H6 p6 R := by
        rw [eR]
        exact ⟨p, p5, h6, s6 _ _ (s5 _ _ hp), s6 _ _ h5⟩
      have okR : R.Ok := by
        rw [eR]
        exact ⟨rep_ok (by omega) (by omega) (by omega) (by omega), by rw [rep_len]; omega, t0, t1, b0, b1, by show 0 ≤ m / 480 % 27; omega, by show m / 480 % 27 ≤ 1000000; omega, by show 1 ≤ 1 + m / 9000 % 12; omega, by show 1 + m / 9000 % 12 ≤ 12; omega, by show 1 ≤ 1 + (0 + (i : Int)) % 4; omega, by show 1 + (0 + (i : Int)) % 4 ≤ 4; omega, by show 1 ≤ 1 + (0 + (i : Int)) % 3; omega, by show 1 + (0 + (i : Int)) % 3 ≤ 3; omega⟩
      have nmR : R.nm = rep (1 + (n / 64 + (0 + (i : Int))) % 8).toNat (97 + ((n / 8 + 3 * (i : Int)) % 8).toNat) := by
        rw [eR, Int.zero_add]
      refine ⟨_, _, _, _, xs ++ [(p6, R)], rfl, (((s2.trans s4).trans s5).trans s6).but n1 k7, ⟨by rw [h7, List.map_append]; rfl, fun z hz => ?_⟩, rw2.push (q := (p6, R)) okR (by omega) nmR⟩
      rcases List.mem_append.mp hz with hz | hz
      · exact (hx6.sr z hz).but k7 hx6.at_ (fun _ w => by cases w)
      · rw [List.mem_singleton.mp hz]
        exact hrow.but k7 hx6.at_ (fun _ w => by cases w)
  · rintro σ H2 ⟨v4, v5, v6, v7, xs, rfl, s2, hx, rw2⟩
    have e : (1 + n % 8 - 0).toNat = (1 + n % 8).toNat := by omega
    exact ⟨_, rfl, q l xs H2 s2 n1 hx (rw2.ok (by omega) (by omega))⟩
def spPiece (cs : CsA) : Sp := fun vs H Q _ => ∃ (l : Addr) (m0 m1 m2 m3 m4 : Int) (nm : Str), vs = [.ref l, .str nm] ∧ H l = some (.lst [.int m0, .int m1, .int m2, .int m3, .int m4]) ∧ 0 ≤ m0 ∧ 0 ≤ m3 ∧
  ∀ t a d p H', Same H H' → H' t = some (.tup [.ref a, .int (p.left d)]) → IsPc cs H' a d p → p.Ok → p.nm = nm → Q (.ref t) H'
theorem way8 {m : Int} (h : 0 ≤ m) : ∃ w : Int, atI [V.int 0, V.int 1, V.int 1, V.int 2, V.int 3, V.int 4, V.int 5, V.int 1] (m % 8) = some (.int w) ∧ 0 ≤ w ∧ w ≤ 5 := by
  have h0 := Int.emod_nonneg m (show (8 : Int) ≠ 0 by decide)
  have h1 := Int.emod_lt_of_pos m (show (0 : Int) < 8 by decide)
  generalize m % 8 = k at h0 h1 ⊢
  have h : k = 0 ∨ k = 1 ∨ k = 2 ∨ k = 3 ∨ k = 4 ∨ k = 5 ∨ k = 6 ∨ k = 7 := by omega
  rcases h with rfl | rfl | rfl | rfl | rfl | rfl | rfl | rfl
  · exact ⟨0, rfl, by decide, by decide⟩
  · exact ⟨1, rfl, by decide, by decide⟩
  · exact ⟨1, rfl, by decide, by decide⟩
  · exact ⟨2, rfl, by decide, by decide⟩
  · exact ⟨3, rfl, by decide, by decide⟩
  · exact ⟨4, rfl, by decide, by decide⟩
  · exact ⟨5, rfl, by decide, by decide⟩
  · exact ⟨1, rfl, by decide, by decide⟩
theorem sc_law_piece : FnScope ["_law_numbers", "_law_name", "_law_span", "_law_tries", "_law_spent", "_law_number", "_law_came", "_law_left", "_law_some", "_law_way"] ["_law_numbers", "_law_name"] (defScope s_law_piece) := ⟨rfl, rfl, rfl, by decide +kernel, rfl, by decide +kernel, by decide +kernel⟩
theorem ok_law_piece (D : Dfn K mg "_law_piece" s_law_piece ["_law_numbers", "_law_name"] f fd) (T : Txt K mg c_WaitError c_NoWeight c_NoSorts c_NoSort c_Over c_Piece c_Held c_Waiting c_Done c_GivenUp c_CalledOff c_Missed c_Sort c_Sorts) (K_Held : Mak P w K mg base "Held" c_Held 1 ["number", "sort_name", "came", "span", "tries", "spent"] (.int 0)) (K_Waiting : Mak P w K mg base "Waiting" c_Waiting 1 ["number", "sort_name", "came", "span", "tries", "spent"] (.int 0)) (K_Done : Mak P w K mg base "Done" c_Done 1 ["number", "sort_name", "came", "span", "tries", "spent"] (.int 0)) (K_GivenUp : Mak P w K mg base "GivenUp" c_GivenUp 1 ["number", "sort_name", "came", "span", "tries", "spent"] (.int 0)) (K_CalledOff : Mak P w K mg base "CalledOff" c_CalledOff 1 ["number", "sort_name", "came", "span", "tries", "spent"] (.int 0)) (K_Missed : Mak P w K mg base "Missed" c_Missed 1 ["number", "sort_name", "came", "span", "tries", "spent"] (.int 0)) : Cal P w K mg base "_law_piece" 3 ["_law_numbers", "_law_name"] (spPiece (CsA.mk c_Held c_Waiting c_Done c_GivenUp c_CalledOff c_Missed)) := by
  refine D.cal (D.F.ok sc_law_piece (fun vs H Q E h => ?_) (fun cdv A outer s H vs Q E hr h => ?_))
  · obtain ⟨l, m0, m1, m2, m3, m4, nm, rfl, _⟩ := h
    rfl
  obtain ⟨l, m0, m1, m2, m3, m4, nm, rfl, hl, p0, p3, q⟩ := h
  refine ⟨_, (pss_cons (ps_set (i := 2) sc_law_piece.nd rfl (Or.inl rfl) (pe_op op_add pe_int (pe_op op_mod (pe_ix ix_list (pv 0) pe_int (fun _ _ => rfl)) pe_int)))
      (pss_cons (ps_set (i := 3) sc_law_piece.nd rfl (Or.inl rfl) (pe_op op_add pe_int (pe_op op_mod (pe_op op_fdiv (pe_ix ix_list (pv 0) pe_int (fun _ _ => rfl)) pe_int) pe_int)))
      (pss_cons (ps_set (i := 4) sc_law_piece.nd rfl (Or.inl rfl) (pe_op op_mod (pe_op op_fdiv (pe_ix ix_list (pv 0) pe_int (fun _ _ => rfl)) pe_int) (pv 2)))
      (pss_cons (ps_par (i := 5) (j := 6) rfl sc_law_piece.nd rfl rfl (by decide) rfl rfl (pa_cons (pe_op op_mod (pe_ix ix_list (pv 0) pe_int (fun _ _ => rfl)) (pe_op op_pow pe_int pe_int)) (pa_cons (pe_op op_mod (pe_ix ix_list (pv 0) pe_int (fun _ _ => rfl)) (pe_op op_pow pe_int pe_int)) pa_nil)) rfl)
      (pss_cons (ps_set (i := 7) sc_law_piece.nd rfl (Or.inl rfl) (pe_op op_sub (pe_op op_mul (pv 3) (pv 2)) (pv 4)))
      (pss_cons (ps_set (i := 8) sc_law_piece.nd rfl (Or.inl rfl) (pe_lstS (pa_cons (pe_mak K_Held (hr.mono (by decide)) rfl (pai (pai_cons (pv 5) (pai_cons (pv 1) (pai_cons (pv 6) (pai_cons (pv 2) (pai_cons (pv 3) (pai_cons (pv 4) pai_nil)))))))) (pa_cons (pe_mak K_Waiting (hr.mono (by decide)) rfl (pai (pai_cons (pv 5) (pai_cons (pv 1) (pai_cons (pv 6) (pai_cons (pv 2) (pai_cons (pv 3) (pai_cons (pv 4) pai_nil)))))))) pa_nil))))
      (pss_cons (ps_set (i := 8) sc_law_piece.nd rfl (Or.inl rfl) (pe_op op_catS (pv 8) (pe_lstS (pa_cons (pe_mak K_Done (hr.mono (by decide)) rfl (pai (pai_cons (pv 5) (pai_cons (pv 1) (pai_cons (pv 6) (pai_cons (pv 2) (pai_cons (pv 3) (pai_cons (pv 4) pai_nil)))))))) (pa_cons (pe_mak K_GivenUp (hr.mono (by decide)) rfl (pai (pai_cons (pv 5) (pai_cons (pv 1) (pai_cons (pv 6) (pai_cons (pv 2) (pai_cons (pv 3) (pai_cons (pv 4) pai_nil)))))))) pa_nil)))))
      (pss_cons (ps_set (i := 8) sc_law_piece.nd rfl (Or.inl rfl) (pe_op op_catS (pv 8) (pe_lstS (pa_cons (pe_mak K_CalledOff (hr.mono (by decide)) rfl (pai (pai_cons (pv 5) (pai_cons (pv 1) (pai_cons (pv 6) (pai_cons (pv 2) (pai_cons (pv 3) (pai_cons (pv 4) pai_nil)))))))) (pa_cons (pe_mak K_Missed (hr.mono (by decide)) rfl (pai (pai_cons (pv 5) (pai_cons (pv 1) (pai_cons (pv 6) (pai_cons (pv 2) (pai_cons (pv 3) (pai_cons (pv 4) pai_nil)))))))) pa_nil)))))
      (pss_cons (ps_set (i := 9) sc_law_piece.nd rfl (Or.inl rfl) (pe_ix ix_list (pe_lstS (pai (pai_cons pe_int (pai_cons pe_int (pai_cons pe_int (pai_cons pe_int (pai_cons pe_int (pai_cons pe_int (pai_cons pe_int (pai_cons pe_int pai_nil)))))))))) (pe_op op_mod (pe_ix ix_list (pv 0) pe_int (fun _ _ => rfl)) pe_int) (fun _ _ => rfl)))
      (pss_one (ps_ret (pe_tupS (pa_cons (pe_ix ix_list (pv 8) (pv 9) (fun _ _ => rfl)) (pa_cons (pe_ix ix_list (pe_lstS (pai (pai_cons (pv 7) (pai_cons (pv 7) (pai_cons pe_int (pai_cons pe_int (pai_cons pe_int (pai_cons pe_int pai_nil)))))))) (pv 9) (fun _ _ => rfl)) pa_nil)))))))))))))), ?_⟩
  refine ⟨_, rfl, l, _, _, _, rfl, rfl, SqL.of hl, rfl, _, _, rfl, rfl, (by show (0 : Int) < _; decide), _, _, rfl, rfl, ?_⟩
  refine ⟨_, rfl, l, _, _, _, rfl, rfl, SqL.of hl, rfl, _, _, rfl, rfl, ⟨by decide, by decide⟩, _, _, rfl, rfl, (by show (0 : Int) < _; decide), _, _, rfl, rfl, ?_⟩
  have a0 : 1 ≤ 1 + m0 % 4 := by omega
  have a1 : 1 + m0 % 4 ≤ 4 := by omega
  have b0 : 1 ≤ 1 + m0 / 4 % 3 := by omega
  have b1 : 1 + m0 / 4 % 3 ≤ 3 := by omega
  dsimp only
  generalize 1 + m0 % 4 = span at a0 a1 ⊢
  generalize 1 + m0 / 4 % 3 = tries at b0 b1 ⊢
  refine ⟨_, rfl, l, _, _, _, rfl, rfl, SqL.of hl, rfl, _, _, rfl, rfl, ⟨by decide, by decide⟩, _, rfl, _, _, rfl, rfl, (show 0 < span by omega), ?_⟩
  dsimp only
  generalize m0 / 12 % span = spent
  refine ⟨_, rfl, l, _, _, _, rfl, rfl, SqL.of hl, rfl, _, _, rfl, rfl, ⟨by decide, by decide, by decide⟩, _, _, rfl, rfl, (by show (0 : Int) < 10 ^ (9 : Int).toNat; decide), _, rfl, l, _, _, _, rfl, rfl, SqL.of hl, rfl, _, _, rfl, rfl, ⟨by decide, by decide, by decide⟩, _, _, rfl, rfl, (by show (0 : Int) < 10 ^ (15 : Int).toNat; decide), _, _, rfl, ?_⟩
  dsimp only
  generalize m1 % 10 ^ (9 : Int).toNat = number
  generalize m2 % 10 ^ (15 : Int).toNat = came
  refine ⟨_, rfl, _, rfl, _, _, rfl, rfl, .inl ⟨show (-2 ^ 64 : Int) < tries by omega, show tries < (2 ^ 64 : Int) by omega⟩, _, rfl, _, _, rfl, rfl, ?_⟩
  refine ⟨_, rfl, _, rfl, _, rfl, _, rfl, _, rfl, _, rfl, rfl, fun x1 d1 H1 s1 n1 h1 => ?_⟩
  refine ⟨_, rfl, _, rfl, _, rfl, _, rfl, _, rfl, _, rfl, rfl, fun x2 d2 H2 s2 n2 h2 => ?_⟩
  refine ⟨sz 2 (by decide), fun l3 H3 s3 n3 h3 => ?_⟩
  refine ⟨_, rfl, _, rfl, _, rfl, _, rfl, _, rfl, _, rfl, _, rfl, rfl, fun x4 d4 H4 s4 n4 h4 => ?_⟩
  refine ⟨_, rfl, _, rfl, _, rfl, _, rfl, _, rfl, _, rfl, rfl, fun x5 d5 H5 s5 n5 h5 => ?_⟩
  refine ⟨sz 2 (by decide), fun l6 H6 s6 n6 h6 => ?_⟩
  have z36 := s4.trans (s5.trans s6)
  refine ⟨l3, l6, _, _, rfl, rfl, z36 _ _ h3, h6, by show 2 + 2 ≤ sizeLine; decide, fun l7 H7 s7 n7 h7 => ?_⟩
  refine ⟨_, rfl, _, rfl, _, rfl, _, rfl, _, rfl, _, rfl, _, rfl, rfl, fun x8 d8 H8 s8 n8 h8 => ?_⟩
  refine ⟨_, rfl, _, rfl, _, rfl, _, rfl, _, rfl, _, rfl, rfl, fun x9 d9 H9 s9 n9 h9 => ?_⟩
  refine ⟨sz 2 (by decide), fun lA HA sA nA hA => ?_⟩
  have z7A := s8.trans (s9.trans sA)
  refine ⟨l7, lA, _, _, rfl, rfl, z7A _ _ h7, hA, by show 4 + 2 ≤ sizeLine; decide, fun lB HB sB nB hB => ?_⟩
  refine ⟨sz 8 (by decide), fun lC HC sC nC hC => ?_⟩
  have zAC := sB.trans sC
  have z0A : Same H HA := (s1.trans (s2.trans s3)).trans (z36.trans (s7.trans z7A))
  have z0C := z0A.trans zAC
  obtain ⟨w, ew, w0, w5⟩ := way8 p3
  refine ⟨_, rfl, l, _, _, _, rfl, rfl, SqL.of (z0C _ _ hl), rfl, _, _, rfl, rfl, (by show (0 : Int) < _; decide), lC, _, _, _, rfl, rfl, SqL.of hC, ew, ?_⟩
  have hBC := sC _ _ hB
  obtain ⟨a, d, ea, hp, el⟩ : ∃ (a : Addr) (d : Wd), atI [V.ref x1, V.ref x2, V.ref x4, V.ref x5, V.ref x8, V.ref x9] w = some (.ref a) ∧ IsPc (CsA.mk c_Held c_Waiting c_Done c_GivenUp c_CalledOff c_Missed) HC a d ⟨number, nm, came, span, tries, spent⟩ ∧
      atI [V.int (tries * span - spent), V.int (tries * span - spent), V.int 0, V.int 0, V.int 0, V.int 0] w = some (.int (Pv.left ⟨number, nm, came, span, tries, spent⟩ d)) := by
    have q7 := z7A.trans zAC
    have h : w = 0 ∨ w = 1 ∨ w = 2 ∨ w = 3 ∨ w = 4 ∨ w = 5 := by omega
    rcases h with rfl | rfl | rfl | rfl | rfl | rfl
    · exact ⟨x1, .held, rfl, ⟨d1, (s2.trans (s3.trans (z36.trans (s7.trans q7)))) _ _ h1⟩, rfl⟩
    · exact ⟨x2, .waiting, rfl, ⟨d2, (s3.trans (z36.trans (s7.trans q7))) _ _ h2⟩, rfl⟩
    · exact ⟨x4, .done, rfl, ⟨d4, (s5.trans (s6.trans (s7.trans q7))) _ _ h4⟩, rfl⟩
    · exact ⟨x5, .givenUp, rfl, ⟨d5, (s6.trans (s7.trans q7)) _ _ h5⟩, rfl⟩
    · exact ⟨x8, .calledOff, rfl, ⟨d8, (s9.trans (sA.trans zAC)) _ _ h8⟩, rfl⟩
    · exact ⟨x9, .missed, rfl, ⟨d9, (sA.trans zAC) _ _ h9⟩, rfl⟩
  refine ⟨_, rfl, _, rfl, lB, _, _, _, rfl, rfl, SqL.of hBC, ea, _, rfl, _, rfl, sz 6 (by decide), fun lD HD sD nD hD => ?_⟩
  refine ⟨_, rfl, lD, _, _, _, rfl, rfl, SqL.of hD, el, sz 2 (by decide), fun t HE sE nE hE => ?_⟩
  exact q t a d _ HE (z0C.trans (sD.trans sE)) hE ((hp.same sD).same sE) ⟨a0, a1, b1, by show 0 ≤ tries; omega⟩ rfl
theorem lk1 (f : Str) (v : V) : ([(f, v)] : List (Str × V)).lookup f = some v := by
  simp [List.lookup]
def Tld (K : PySem.W.Frag) (way : Int) (d : Wd) (p : Pv) (rs : List SR) (H : Hp) (Q : VK) : Prop :=
  (∃ r, Finds rs p.nm r ∧ (way = 0 → ∀ t H', Same H H' → IsCt H' t (ctOf p r.low) → Q (.ref t) H') ∧ (way = 1 → ∀ t u H', Same H H' → H' u = some (.tup [.ref t, .int (p.left d)]) → IsCt H' t (ctOf p r.low) → Q (.ref u) H')) ∨
  ((∀ r, r ∈ rs → r.nm ≠ p.nm) ∧ ∀ u H', Same H H' → H' u = some (.tup [.str (Str.ofString "none"), .str p.nm]) → Q (.ref u) H')
def spToldW (K : PySem.W.Frag) (cs : CsA) (ct : Addr) : Sp := fun vs H Q _ => ∃ (way : Int) (a s : Addr) (d : Wd) (p : Pv) (rs : List SR), vs = [.int way, .ref a, .ref s] ∧ (way = 0 ∨ way = 1) ∧ IsPc cs H a d p ∧ p.Ok ∧ IsSt ct H s rs ∧ rs.length ≤ 8 ∧ (∀ r, r ∈ rs → r.Ok) ∧ Tld K way d p rs H Q
theorem sc_law_told : FnScope ["_law_way", "_law_piece_here", "_law_sorts", "_law_told_here", "e"] ["_law_way", "_law_piece_here", "_law_sorts"] (defScope s_law_told) := ⟨rfl, rfl, rfl, by decide +kernel, rfl, by decide +kernel, by decide +kernel⟩
theorem ok_law_told (D : Dfn K mg "_law_told" s_law_told ["_law_way", "_law_piece_here", "_law_sorts"] f fd) (T : Txt K mg c_WaitError c_NoWeight c_NoSorts c_NoSort c_Over c_Piece c_Held c_Waiting c_Done c_GivenUp c_CalledOff c_Missed c_Sort c_Sorts) (C_claim_of : Cal1 P w K mg base "claim_of" 8 ["piece", "sorts"] (spClaim K (CsA.mk c_Held c_Waiting c_Done c_GivenUp c_CalledOff c_Missed) c_Sorts c_NoSort)) (C_chore_of : Cal1 P w K mg base "chore_of" 9 ["piece", "sorts"] (spChore K (CsA.mk c_Held c_Waiting c_Done c_GivenUp c_CalledOff c_Missed) c_Sorts c_NoSort)) : Cal P w K mg base "_law_told" 10 ["_law_way", "_law_piece_here", "_law_sorts"] (spToldW K (CsA.mk c_Held c_Waiting c_Done c_GivenUp c_CalledOff c_Missed) c_Sorts) := by
  refine D.cal (D.F.ok sc_law_told (fun vs H Q E h => ?_) (fun cdv A outer s H vs Q E hr h => ?_))
  · obtain ⟨way, a, s, d, p, rs, rfl, _⟩ := h
    rfl
  obtain ⟨way, a, s, d, p, rs, rfl, hw, hp, po, hst, hl, ok, h⟩ := h
  have mroP : PySem.W.mroIn K c_NoSort (.ref c_NoSort) = some true := by
    rw [T.d_NoSort.mro, List.contains_cons]
    simp
  refine ⟨_, (pss_cons (ps_set (i := 3) sc_law_told.nd rfl (Or.inl rfl) pe_non)
      (pss_cons (ps_try rfl rfl (fun _ _ _ => (pss_one1 (ps_if1 (pt_cmpR op_eq (pv 0) pe_int (nomark _)) (pss_one1 (ps_set1 (i := 3) sc_law_told.nd rfl (Or.inl rfl) (pe_calT C_claim_of (hr.mono (by decide)) rfl (pa_cons (pv 1) (pa_cons (pv 2) pa_nil))))) (pss_one1 (ps_set1 (i := 3) sc_law_told.nd rfl (Or.inl rfl) (pe_calT C_chore_of (hr.mono (by decide)) rfl (pa_cons (pv 1) (pa_cons (pv 2) pa_nil)))))))) (ph_as (i := 4) (fun _ => (pss_one (ps_set (i := 3) sc_law_told.nd rfl (Or.inl rfl) (pe_tupS (pa_cons pe_str (pa_cons (pe_xfldK (K := K) (pv 4) rfl rfl) pa_nil)))))) ph_never sc_law_told.nd rfl rfl rfl T.g_NoSort (T.d_NoSort.base rfl) T.d_NoSort.ty))
      (pss_one (ps_ret (pv 3))))), ?_⟩
  refine ⟨⟨fun cls x H' => ∃ x', x = some x' ∧ Same H H' ∧ cls = .ref c_NoSort ∧ Told K H' x' c_NoSort "name" (.str p.nm) ∧ ∀ u H', Same H H' → H' u = some (.tup [.str (Str.ofString "none"), .str p.nm]) → Q (.ref u) H', ?_, ?_⟩⟩
  · rcases hw with rfl | rfl
    · refine ⟨_, rfl, rfl, _, rfl, iteT ?_⟩
      refine ⟨_, rfl, _, rfl, a, s, d, p, rs, rfl, hp, hst, hl, ok, ?_⟩
      rcases h with ⟨r, hr, q0, _⟩ | ⟨hn, qN⟩
      · exact .inl ⟨r, hr, fun t H1 s1 h1 => ⟨_, rfl, q0 rfl t H1 s1 h1⟩⟩
      · exact .inr ⟨hn, fun x H1 s1 h1 => ⟨x, rfl, s1, rfl, h1, qN⟩⟩
    · refine ⟨_, rfl, rfl, _, rfl, iteF ?_⟩
      refine ⟨_, rfl, _, rfl, a, s, d, p, rs, rfl, hp, po, hst, hl, ok, ?_⟩
      rcases h with ⟨r, hr, _, q1⟩ | ⟨hn, qN⟩
      · exact .inl ⟨r, hr, fun t u H1 s1 h1 h2 => ⟨_, rfl, q1 rfl t u H1 s1 h1 h2⟩⟩
      · exact .inr ⟨hn, fun x H1 s1 h1 => ⟨x, rfl, s1, rfl, h1, qN⟩⟩
  · rintro C x H3 hx0 ⟨x', e2, s3, e, h3, qN⟩
    cases e2
    cases e
    refine ⟨true, mroP, iteT ?_⟩
    obtain ⟨dd, ws, e1, e2⟩ := h3.ex
    exact ⟨_, rfl, x, _, dd, ws, _, _, rfl, e1, e2, T.x_NoSort, T.n_NoSort, lk1 _ _, sz 2 (by decide), fun t4 H4 s4 n4 h4 => ⟨_, rfl, qN t4 H4 (s3.trans s4) h4⟩⟩
inductive Dqs (K : PySem.W.Frag) (H : Hp) (n : Nat) : List V → List V → Prop where
  | nil : Dqs K H n [] []
  | cons {x y : V} {xs ys : List V} : Deq K H n x y → Dqs K H n xs ys → Dqs K H n (x :: xs) (y :: ys)
theorem deq_list {H : Hp} {n : Nat} : ∀ {xs ys : List V}, Dqs K H n xs ys → ∀ (j : Nat) u v, xs[j]? = some u → ys[j]? = some v → Deq K H n u v
  | _, _, .nil, j, u, v, h, _ => by simp at h
  | _, _, .cons d r, 0, u, v, h, h' => by
    cases h
    cases h'
    exact d
  | _, _, .cons d r, j + 1, u, v, h, h' => deq_list r j u v h h'
theorem deq2 {H : Hp} {n : Nat} {p p' : Addr} {a b : Int} (h : H p = some (.tup [.int a, .int b])) (h' : H p' = some (.tup [.int a, .int b])) : Deq K H (n + 1) (.ref p) (.ref p') :=
  Deq.tup (SqT.of h) (SqT.of h') rfl (deq_list (.cons (Deq.int n a) (.cons (Deq.int n b) .nil)))
theorem ct_all {H : Hp} {n : Nat} {t t' : Addr} {k : Ct} (h : IsCt H t k) (h' : IsCt H t' k) : rRows K (n + 1) (.ref t) (.ref t') H := by
  obtain ⟨pw, ps, e1, e2, e3⟩ := h
  obtain ⟨pw', ps', f1, f2, f3⟩ := h'
  exact ⟨t, t', _, _, rfl, rfl, .inl ⟨SqT.of e1, SqT.of f1⟩, rfl, deq_list (.cons (Deq.int _ _) (.cons (deq2 e2 f2) (.cons (deq2 e3 f3) (.cons (Deq.int _ _) .nil))))⟩
theorem ct_deq {H : Hp} {n : Nat} {t t' : Addr} {k : Ct} (h : IsCt H t k) (h' : IsCt H t' k) : Deq K H (n + 2) (.ref t) (.ref t') := by
  obtain ⟨pw, ps, e1, e2, e3⟩ := h
  obtain ⟨pw', ps', f1, f2, f3⟩ := h'
  exact Deq.tup (SqT.of e1) (SqT.of f1) rfl (deq_list (.cons (Deq.int _ _) (.cons (deq2 e2 f2) (.cons (deq2 e3 f3) (.cons (Deq.int _ _) .nil)))))
def Due (H : Hp) (p : Pv) (rs : List SR) (vd vc : V) : Prop :=
  (vc = .non ∧ (∃ d0, vd = .ref d0 ∧ H d0 = some (.tup [.str (Str.ofString "none"), .str p.nm])) ∧ ∀ r, r ∈ rs → r.nm ≠ p.nm) ∨
  ∃ t r, vd = .ref t ∧ vc = .ref t ∧ IsCt H t (ctOf p r.low) ∧ r ∈ rs ∧ r.nm = p.nm
def spRight (K : PySem.W.Frag) (cs : CsA) (ct : Addr) : Sp := fun vs H Q _ => ∃ (a s l : Addr) (d : Wd) (p : Pv) (xs : List (Addr × SR)), vs = [.ref a, .int (p.left d), .ref s, .ref l] ∧ IsPc cs H a d p ∧ p.Ok ∧ IsSRs H l xs ∧ RsOk (xs.map (·.2)) ∧ IsSt ct H s (xs.map (·.2.low)) ∧ ∀ H', Same H H' → Q (.bl true) H'
theorem sc_law_right : FnScope ["_law_piece_here", "_law_left", "_law_sorts", "_law_rows_here", "_law_due", "_law_claim", "_law_name", "_law_weight", "_law_speed", "_law_span", "_law_tries", "_law_dues", "_law_way"] ["_law_piece_here", "_law_left", "_law_sorts", "_law_rows_here"] (defScope s_law_right) := ⟨rfl, rfl, rfl, by decide +kernel, rfl, by decide +kernel, by decide +kernel⟩
theorem ok_law_right (D : Dfn K mg "_law_right" s_law_right ["_law_piece_here", "_law_left", "_law_sorts", "_law_rows_here"] f fd) (T : Txt K mg c_WaitError c_NoWeight c_NoSorts c_NoSort c_Over c_Piece c_Held c_Waiting c_Done c_GivenUp c_CalledOff c_Missed c_Sort c_Sorts) (C_law_lowest : Cal P w K mg base "_law_lowest" 1 ["_law_weight"] spLaw1) (C_law_told : Cal P w K mg base "_law_told" 10 ["_law_way", "_law_piece_here", "_law_sorts"] (spToldW K (CsA.mk c_Held c_Waiting c_Done c_GivenUp c_CalledOff c_Missed) c_Sorts)) : Cal P w K mg base "_law_right" 11 ["_law_piece_here", "_law_left", "_law_sorts", "_law_rows_here"] (spRight K (CsA.mk c_Held c_Waiting c_Done c_GivenUp c_CalledOff c_Missed) c_Sorts) := by
  refine D.cal (D.F.ok sc_law_right (fun vs H Q E h => ?_) (fun cdv A outer s H vs Q E hr h => ?_))
  · obtain ⟨a, s, l, d, p, xs, rfl, _⟩ := h
    rfl
  obtain ⟨a, s, l, d, p, xs, rfl, ⟨dx, e⟩, po, hx, ro, hst, q⟩ := h
  have S := six_of T
  refine ⟨_, (pss_cons (ps_set (i := 4) sc_law_right.nd rfl (Or.inl rfl) (pe_tupS (pa_cons pe_str (pa_cons (pe_fld (pv 0) rfl) pa_nil))))
      (pss_cons (ps_set (i := 5) sc_law_right.nd rfl (Or.inl rfl) pe_non)
      (pss_cons (ps_for PassesOwn.never rfl (pi_list (pv 3)) (pg_tup rfl (pgs_cons (pg_name (i := 6) sc_law_right.nd rfl (Or.inl rfl)) (pgs_cons (pg_name (i := 7) sc_law_right.nd rfl (Or.inl rfl)) (pgs_cons (pg_name (i := 8) sc_law_right.nd rfl (Or.inl rfl)) (pgs_cons (pg_name (i := 9) sc_law_right.nd rfl (Or.inl rfl)) (pgs_cons (pg_name (i := 10) sc_law_right.nd rfl (Or.inl rfl)) pgs_nil)))))) (pss_one (ps_if (pt_cmpR op_eq (pv 6) (pe_fld (pv 0) rfl) (nomark _)) (pss_cons (ps_set (i := 5) sc_law_right.nd rfl (Or.inl rfl) (pe_tupS (pai (pai_cons (pe_fld (pv 0) rfl) (pai_cons (pe_cal C_law_lowest (hr.mono (by decide)) rfl (pa_cons (pv 7) pa_nil)) (pai_cons (pe_cal C_law_lowest (hr.mono (by decide)) rfl (pa_cons (pv 8) pa_nil)) (pai_cons (pe_fld (pv 0) rfl) pai_nil)))))))
      (pss_one (ps_set (i := 4) sc_law_right.nd rfl (Or.inl rfl) (pv 5)))) pss_nil)))
      (pss_cons (ps_set (i := 11) sc_law_right.nd rfl (Or.inl rfl) (pe_lstS (pa_cons (pv 4) (pa_cons (pv 4) pa_nil))))
      (pss_mid (ps_if (pt_cmpR op_notN (pv 5) pe_non (nomark _)) (pss_one (ps_set (i := 11) sc_law_right.nd rfl (Or.inl rfl) (pe_lstS (pa_cons (pv 5) (pa_cons (pe_tupS (pa_cons (pv 5) (pa_cons (pv 1) pa_nil))) pa_nil))))) pss_nil)
      (pss_cons (ps_for PassesOwn.never rfl (pi_list (pe_ix ix_list (pe_lstS (pa_cons (pe_lstS (pa_cons pe_int (pa_cons pe_int pa_nil))) (pa_cons (pe_lstS (pa_cons pe_int (pa_cons pe_int pa_nil))) pa_nil))) (pe_op op_mod (pe_fld (pv 0) rfl) pe_int) (fun _ _ => rfl))) (pg_name (i := 12) sc_law_right.nd rfl (Or.inl rfl)) (pss_one (ps_if (pt_cmpR (op_neD 9 hr.units9) (pe_cal C_law_told (hr.mono (by decide)) rfl (pa_cons (pv 12) (pa_cons (pv 0) (pa_cons (pv 2) pa_nil)))) (pe_ix ix_list (pv 11) (pv 12) (fun _ _ => rfl)) (nomark _)) (pss_one (ps_ret pe_bl)) pss_nil)))
      (pss_one (ps_ret pe_bl)))))))), ?_⟩
  refine ⟨_, rfl, a, _, dx, _, _, rfl, e, (S.ow d).cl, S.n2 d, rfl, sz 2 (by decide), fun d0 H1 s1 n1 h1 => ?_⟩
  have hx1 := hx.same s1
  refine ⟨_, rfl, l, rfl, ⟨_, SqL.of hx1.at_⟩, ?_⟩
  refine for_list (K := K) (a := l) (xs := xs.map fun z => V.ref z.1) (fun i σ H2 => ∃ (vd vc : V) (v6 v7 v8 v9 v10 : Option V), σ = [some (.ref a), some (.int (p.left d)), some (.ref s), some (.ref l), some vd, some vc, v6, v7, v8, v9, v10, none, none] ∧ Same H H2 ∧ Due H2 p ((xs.take i).map (·.2)) vd vc)
    ⟨_, _, _, _, _, _, _, rfl, s1, .inl ⟨rfl, ⟨d0, rfl, h1⟩, fun r hr => by simp at hr⟩⟩ (fun i σ H2 _ ⟨_, _, _, _, _, _, _, _, s2, _⟩ => SqL.of (hx.same s2).at_) ?_ ?_
  · rintro i v σ H2 hv ⟨vd, vc, v6, v7, v8, v9, v10, rfl, s2, hd⟩
    rw [List.getElem?_map] at hv
    cases ez : xs[i]? with
    | none => rw [ez] at hv; cases hv
    | some z =>
      rw [ez] at hv
      cases hv
      have mz := List.mem_of_getElem? ez
      have okz := ro.ok _ (List.mem_map_of_mem mz)
      obtain ⟨pw, ps, z1, z2, z3⟩ := (hx.same s2).sr z mz
      have e2 := s2 _ _ e
      have tk : (xs.take (i + 1)).map (·.2) = (xs.take i).map (·.2) ++ [z.2] := by
        rw [List.take_add_one, ez, List.map_append]
        rfl
      refine ⟨z.1, _, rfl, SqT.of z1, rfl, _, _, rfl, _, _, rfl, _, _, rfl, _, _, rfl, _, _, rfl, rfl, ?_⟩
      refine ⟨_, rfl, _, rfl, a, _, dx, _, _, rfl, e2, (S.ow d).cl, S.n2 d, rfl, rfl, _, rfl, ?_⟩
      refine ite2 (fun c => ?_) (fun c => ?_)
      · have c' : z.2.nm = p.nm := by
          have := of_decide_eq_true c
          injection this
        refine ⟨_, rfl, a, _, dx, _, _, rfl, e2, (S.ow d).cl, S.n1 d, rfl, _, rfl, pw, _, _, rfl, z2, okz.a0, okz.b0, okz.b1, fun p3 H3 s3 h3 => ?_⟩
        refine ⟨_, rfl, ps, _, _, rfl, s3 _ _ z3, okz.c0, okz.d0, okz.d1, fun p4 H4 s4 h4 => ?_⟩
        refine ⟨_, rfl, a, _, dx, _, _, rfl, s4 _ _ (s3 _ _ e2), (S.ow d).cl, S.n3 d, rfl, sz 4 (by decide), fun t H5 s5 n5 h5 => ?_⟩
        refine ⟨_, rfl, _, _, _, _, _, _, _, rfl, (s2.trans s3).trans (s4.trans s5), .inr ⟨t, z.2, rfl, rfl, ⟨p3, p4, h5, (s4.trans s5) _ _ h3, s5 _ _ h4⟩, ?_, c'⟩⟩
        rw [tk]
        exact List.mem_append.mpr (.inr (List.mem_singleton.mpr rfl))
      · have c' : ¬ z.2.nm = p.nm := fun w => c (decide_eq_true (by rw [w]))
        refine ⟨_, _, _, _, _, _, _, rfl, s2, ?_⟩
        rw [tk]
        rcases hd with ⟨y1, y2, y3⟩ | ⟨t, r, y1, y2, y3, y4, y5⟩
        · refine .inl ⟨y1, y2, fun r hr => ?_⟩
          rcases List.mem_append.mp hr with hr | hr
          · exact y3 r hr
          · rw [List.mem_singleton.mp hr]
            exact c'
        · exact .inr ⟨t, r, y1, y2, y3, List.mem_append.mpr (.inl y4), y5⟩
  rintro σ H2 ⟨vd, vc, v6, v7, v8, v9, v10, rfl, s2, hd⟩
  rw [List.length_map, List.take_length] at hd
  refine ⟨_, rfl, _, rfl, sz 2 (by decide), fun ld H3 s3 n3 h3 => ?_⟩
  refine ⟨fun σ' H' => ∃ (ld : Addr) (e0 e1 : V), σ' = [some (.ref a), some (.int (p.left d)), some (.ref s), some (.ref l), some vd, some vc, v6, v7, v8, v9, v10, some (.ref ld), none] ∧ Same H2 H' ∧ H' ld = some (.lst [e0, e1]) ∧
    ((∃ d0, e0 = .ref d0 ∧ e1 = .ref d0 ∧ H' d0 = some (.tup [.str (Str.ofString "none"), .str p.nm]) ∧ ∀ r, r ∈ xs.map (·.2) → r.nm ≠ p.nm) ∨ ∃ t u r, e0 = .ref t ∧ e1 = .ref u ∧ H' u = some (.tup [.ref t, .int (p.left d)]) ∧ IsCt H' t (ctOf p r.low) ∧ r ∈ xs.map (·.2) ∧ r.nm = p.nm), ?_, ?_⟩
  · refine ⟨_, rfl, rfl, _, rfl, ?_⟩
    rcases hd with ⟨rfl, ⟨d1, rfl, y2⟩, y3⟩ | ⟨t, r, rfl, rfl, y3, y4, y5⟩
    · rw [decide_eq_true rfl]
      exact iteF ⟨ld, _, _, rfl, s3, h3, .inl ⟨d1, rfl, rfl, s3 _ _ y2, y3⟩⟩
    · rw [decide_eq_false (fun w => by cases w)]
      refine iteT ⟨_, rfl, _, rfl, _, rfl, sz 2 (by decide), fun u H4 s4 n4 h4 => ⟨sz 2 (by decide), fun lf H5 s5 n5 h5 => ?_⟩⟩
      exact ⟨lf, _, _, rfl, s3.trans (s4.trans s5), h5, .inr ⟨t, u, r, rfl, rfl, s5 _ _ h4, y3.same (s3.trans (s4.trans s5)), y4, y5⟩⟩
  · rintro σ' H4 ⟨ld, e0, e1, rfl, s4, hld, hde⟩
    have s04 : Same H H4 := s2.trans s4
    have e4 := s04 _ _ e
    refine ⟨sz 2 (by decide), fun la H5 s5 n5 h5 => ⟨sz 2 (by decide), fun lb H6 s6 n6 h6 => ⟨sz 2 (by decide), fun lc H7 s7 n7 h7 => ?_⟩⟩⟩
    have s47 := s5.trans (s6.trans s7)
    have s07 := s04.trans s47
    refine ⟨_, rfl, a, _, dx, _, _, rfl, s47 _ _ e4, (S.ow d).cl, S.n3 d, rfl, _, _, rfl, rfl, (by show (0 : Int) < _; decide), ?_⟩
    obtain ⟨lw, ws, ew, hw, mw⟩ : ∃ (lw : Addr) (ws : List Int), atI [V.ref la, V.ref lb] (p.came % 2) = some (.ref lw) ∧ H7 lw = some (.lst (ws.map V.int)) ∧ ∀ w, w ∈ ws → w = 0 ∨ w = 1 := by
      have h : p.came % 2 = 0 ∨ p.came % 2 = 1 := by omega
      rcases h with h | h
      · rw [h]
        exact ⟨la, [0, 1], rfl, (s6.trans s7) _ _ h5, fun w hw => by simpa using hw⟩
      · rw [h]
        exact ⟨lb, [1, 0], rfl, s7 _ _ h6, fun w hw => by have : w = 1 ∨ w = 0 := by simpa using hw
                                                          exact this.symm⟩
    refine ⟨lc, _, _, _, rfl, rfl, SqL.of h7, ew, lw, rfl, ⟨_, SqL.of hw⟩, ?_⟩
    refine for_list (K := K) (a := lw) (xs := ws.map V.int) (fun i σ H8 => ∃ v12 : Option V, σ = [some (.ref a), some (.int (p.left d)), some (.ref s), some (.ref l), some vd, some vc, v6, v7, v8, v9, v10, some (.ref ld), v12] ∧ Same H7 H8) ⟨_, rfl, Same.refl _⟩ (fun i σ H8 _ ⟨_, _, s8⟩ => SqL.of (s8 _ _ hw)) ?_ ?_
    · rintro i v σ H8 hv ⟨v12, rfl, s8⟩
      have mv := List.mem_of_getElem? hv
      obtain ⟨w, hw2, rfl⟩ := List.mem_map.mp mv
      have w01 := mw w hw2
      have s08 := s07.trans s8
      have s48 := s47.trans s8
      have okl : ∀ r, r ∈ xs.map (·.2.low) → r.Ok := fun r hr => by
        obtain ⟨z, hz, rfl⟩ := List.mem_map.mp hr
        exact (ro.ok _ (List.mem_map_of_mem hz)).low
      have l8 : (xs.map (·.2.low)).length ≤ 8 := by
        have := ro.l1
        rw [List.length_map] at this ⊢
        exact this
      refine ⟨_, rfl, _, rfl, _, rfl, w, a, s, d, p, _, rfl, w01, ⟨dx, s08 _ _ e⟩, po, hst.same s08, l8, okl, ?_⟩
      have hld8 := s48 _ _ hld
      rcases hde with ⟨d1, rfl, rfl, y1, y2⟩ | ⟨t, u, r, rfl, rfl, y1, y2, y3, y4⟩
      · refine .inr ⟨fun r hr => ?_, fun u9 H9 s9 h9 => ?_⟩
        · obtain ⟨z, hz, rfl⟩ := List.mem_map.mp hr
          exact y2 z.2 (List.mem_map_of_mem hz)
        have y9 := s9 _ _ (s48 _ _ y1)
        have ea : atI [V.ref d1, V.ref d1] w = some (.ref d1) := by
          rcases w01 with rfl | rfl <;> rfl
        refine ⟨_, rfl, _, rfl, ld, _, _, _, rfl, rfl, SqL.of (s9 _ _ hld8), ea, ⟨u9, d1, _, _, rfl, rfl, .inl ⟨SqT.of h9, SqT.of y9⟩, rfl, deq_list (.cons (Deq.flat _ rfl) (.cons (Deq.flat _ rfl) .nil))⟩, _, rfl, iteF ⟨_, rfl, s8.trans s9⟩⟩
      · obtain ⟨z, hz, ezr⟩ := List.mem_map.mp y3
        have okr := ro.ok r y3
        have fin : Finds (xs.map (·.2.low)) p.nm r.low := by
          refine ⟨List.mem_map.mpr ⟨z, hz, by rw [← ezr]⟩, y4, fun b hb eb => ?_⟩
          obtain ⟨z', hz', rfl⟩ := List.mem_map.mp hb
          obtain ⟨i1, j1, k1⟩ := List.getElem_of_mem y3
          obtain ⟨i2, j2, k2⟩ := List.getElem_of_mem (List.mem_map_of_mem (f := (·.2)) hz')
          have q1 : (xs.map (·.2))[i1]? = some r := by rw [List.getElem?_eq_getElem j1, k1]
          have q2 : (xs.map (·.2))[i2]? = some z'.2 := by rw [List.getElem?_eq_getElem j2, k2]
          have := ro.nd i1 i2 r z'.2 q1 q2 (by rw [y4]; exact eb.symm)
          subst this
          rw [q1] at q2
          cases q2
          rfl
        refine .inl ⟨r.low, fin, fun w0 => ?_, fun w1 => ?_⟩
        · subst w0
          intro t9 H9 s9 h9
          rw [okr.low2] at h9
          have y9 := (y2.same s48).same s9
          exact ⟨_, rfl, _, rfl, ld, _, _, _, rfl, rfl, SqL.of (s9 _ _ hld8), rfl, ct_all h9 y9, _, rfl, iteF ⟨_, rfl, s8.trans s9⟩⟩
        · subst w1
          intro t9 u9 H9 s9 h9 h9'
          rw [okr.low2] at h9'
          have y9 := (y2.same s48).same s9
          have u9' := s9 _ _ (s48 _ _ y1)
          exact ⟨_, rfl, _, rfl, ld, _, _, _, rfl, rfl, SqL.of (s9 _ _ hld8), rfl, ⟨u9, u, _, _, rfl, rfl, .inl ⟨SqT.of h9, SqT.of u9'⟩, rfl, deq_list (.cons (ct_deq h9' y9) (.cons (Deq.int _ _) .nil))⟩, _, rfl, iteF ⟨_, rfl, s8.trans s9⟩⟩
    · rintro σ H8 ⟨v12, rfl, s8⟩
      exact q H8 (s07.trans s8)
def spLaw (K : PySem.W.Frag) : Sp := fun vs H Q _ => ∃ (a : Addr) (ns : List Int), vs = [.ref a] ∧ SqL K H a (ns.map V.int) ∧ ns.length ≤ 63 ∧ ∀ H', Q (.bl true) H'
theorem five {vs : List V} (h : vs.length = 5) (p : ∀ v, v ∈ vs → ∃ i : Int, v = .int i ∧ 0 ≤ i) : ∃ a b c d e : Int, vs = [.int a, .int b, .int c, .int d, .int e] ∧ 0 ≤ a ∧ 0 ≤ d ∧ 0 ≤ e := by
  match vs, h, p with
  | [v1, v2, v3, v4, v5], _, p =>
    obtain ⟨a, rfl, a0⟩ := p v1 (by simp)
    obtain ⟨b, rfl, _⟩ := p v2 (by simp)
    obtain ⟨c, rfl, _⟩ := p v3 (by simp)
    obtain ⟨d, rfl, d0⟩ := p v4 (by simp)
    obtain ⟨e, rfl, e0⟩ := p v5 (by simp)
    exact ⟨a, b, c, d, e, rfl, a0, d0, e0⟩
theorem cut_to (xs : List V) {k : Nat} (h : k ≤ xs.length) : cutV xs none (some (k : Int)) = xs.take k := by
  unfold cutV
  rw [HT.sIx_none, HT.sIx_nat, List.drop_zero, Nat.sub_zero, Nat.min_eq_left h]
theorem cut_from (xs : List V) {k : Nat} (h : k ≤ xs.length) : cutV xs (some (k : Int)) none = xs.drop k := by
  unfold cutV
  rw [HT.sIx_none, HT.sIx_nat, Nat.min_eq_left h]
  refine List.take_of_length_le ?_
  rw [List.length_drop]
  exact Nat.le_refl _
theorem set_cut {xs : List V} {k : Nat} {v : V} (h : k < xs.length) : xs.take k ++ [v] ++ xs.drop (k + 1) = xs.set k v := by
  rw [List.set_eq_take_append_cons_drop, if_pos h, List.append_assoc]
  rfl
theorem st_speed {xs : List (Addr × SR)} {k : Nat} {z : Addr × SR} {t : Addr} {c d : Int} (ro : RsOk (xs.map (·.2))) (hz : xs[k]? = some z) :
    ((xs.map (·.2.low)).set k { z.2.low with c := c, d := d }).map SR.low = (xs.set k (t, { z.2 with c := c, d := d })).map (·.2.low) := by
  rw [List.map_set, List.map_set, List.map_map]
  have okz := ro.ok _ (List.mem_map_of_mem (List.mem_of_getElem? hz))
  have e1 : List.map (SR.low ∘ fun x => x.snd.low) xs = List.map (fun x => x.snd.low) xs := by
    refine List.map_congr_left fun q hq => ?_
    exact (ro.ok _ (List.mem_map_of_mem hq)).low2
  have e2 : SR.low { z.2.low with c := c, d := d } = SR.low { z.2 with c := c, d := d } := by
    have o := M1.low_one (M1.gd_low (t := z.2.a) (show 0 < z.2.b from okz.b0))
    simp only [SR.low, SR.mk.injEq, true_and, and_true]
    exact ⟨o.1, o.2⟩
  rw [e1, e2]
theorem sc_law : FnScope ["_law_script", "_law_rows_here", "_law_sorts", "_law_cell_here", "_law_numbers", "_law_name", "_law_piece_here", "_law_left", "_law_at", "_law_speed", "_law_others"] ["_law_script"] (defScope s_law) := ⟨rfl, rfl, rfl, by decide +kernel, rfl, by decide +kernel, by decide +kernel⟩
theorem ok_law (D : Dfn K mg "law" s_law ["_law_script"] f fd) (T : Txt K mg c_WaitError c_NoWeight c_NoSorts c_NoSort c_Over c_Piece c_Held c_Waiting c_Done c_GivenUp c_CalledOff c_Missed c_Sort c_Sorts) (C_law_draw : Cal P w K mg base "_law_draw" 2 ["_law_cell_here", "_law_k"] spDraw) (C_law_rows : Cal P w K mg base "_law_rows" 3 ["_law_script"] (spRows K)) (C_law_piece : Cal P w K mg base "_law_piece" 3 ["_law_numbers", "_law_name"] (spPiece (CsA.mk c_Held c_Waiting c_Done c_GivenUp c_CalledOff c_Missed))) (C_law_right : Cal P w K mg base "_law_right" 11 ["_law_piece_here", "_law_left", "_law_sorts", "_law_rows_here"] (spRight K (CsA.mk c_Held c_Waiting c_Done c_GivenUp c_CalledOff c_Missed) c_Sorts)) (K_Sorts : MakG (CX1 P w) P w K mg base "Sorts" c_Sorts 7 (spStMk K c_Sorts c_NoSorts)) (M_with_speed : MOk (CX1 P w) P w K mg base 9 c_Sorts "with_speed" (spSpeed K c_Sorts c_NoSort c_NoWeight)) : FnOk P w K mg base CX0 12 f fd ["_law_script"] (spLaw K) := by
  refine D.F.ok sc_law (fun vs H Q E h => ?_) (fun cdv A outer s H vs Q E hr h => ?_)
  · obtain ⟨a, ns, rfl, _⟩ := h
    rfl
  obtain ⟨a, ns, rfl, hS, h63, q⟩ := h
  refine ⟨_, (pss_cons (ps_set (i := 1) sc_law.nd rfl (Or.inl rfl) (pe_cal C_law_rows (hr.mono (by decide)) rfl (pa_cons (pv 0) pa_nil)))
      (pss_cons (ps_set (i := 2) sc_law.nd rfl (Or.inl rfl) (pe_makG K_Sorts (hr.mono (by decide)) rfl passesE0 (pa_cons (pe_callTy call_lstS rfl T.b_list bt_list (pa_cons (pv 1) pa_nil)) pa_nil)))
      (pss_cons (ps_for PassesOwn.never rfl (pi_list (pe_op op_catS (pe_slice sl_listS (pv 0) (po_some pe_int) (po_some pe_int)) (pe_lstS (pa_cons pe_int pa_nil)))) (pg_name (i := 3) sc_law.nd rfl (Or.inr rfl)) (pss_cons (ps_setC (i := 4) (N := ["_law_k", "_law_cell_here"]) (js := [3]) sc_law.nd rfl rfl rfl (CompScope.of rfl rfl rfl rfl rfl (by decide +kernel) rfl rfl rfl rfl) (pi_range1 rfl T.b_range (pa_cons pe_int pa_nil)) (fun _ _ _ _ _ => ct_nil) (fun _ _ _ _ _ => (pe_cal C_law_draw (hr.mono (by decide)) rfl (pa_cons (pv 1) (pa_cons (pv 0) pa_nil)))))
      (pss_cons (ps_set (i := 5) sc_law.nd rfl (Or.inl rfl) (pe_ix ix_tup (pe_ix ix_list (pv 1) (pe_op op_mod (pe_ix ix_list (pv 4) pe_int (fun _ _ => rfl)) (pe_callB call_len_seq rfl T.b_len bt_len (pa_cons (pv 1) pa_nil))) (fun _ _ => rfl)) pe_int (fun _ _ => rfl)))
      (pss_mid (ps_if (pt_cmpR op_eq (pe_op op_mod (pe_op op_fdiv (pe_ix ix_list (pv 4) pe_int (fun _ _ => rfl)) pe_int) pe_int) pe_int (nomark _)) (pss_one (ps_set (i := 5) sc_law.nd rfl (Or.inl rfl) (pe_ix ix_list (pe_lstS (pai (pai_cons pe_str (pai_cons pe_str (pai_cons pe_str (pai_cons pe_str pai_nil)))))) (pe_op op_mod (pe_op op_fdiv (pe_ix ix_list (pv 4) pe_int (fun _ _ => rfl)) pe_int) pe_int) (fun _ _ => rfl)))) pss_nil)
      (pss_cons (ps_asg (pe_cal C_law_piece (hr.mono (by decide)) rfl (pa_cons (pv 4) (pa_cons (pv 5) pa_nil))) (pg_tup rfl (pgs_cons (pg_name (i := 6) sc_law.nd rfl (Or.inl rfl)) (pgs_cons (pg_name (i := 7) sc_law.nd rfl (Or.inl rfl)) pgs_nil))))
      (pss_cons (ps_set (i := 8) sc_law.nd rfl (Or.inl rfl) (pe_op op_mod (pe_op op_fdiv (pe_ix ix_list (pv 4) pe_int (fun _ _ => rfl)) pe_int) (pe_callB call_len_seq rfl T.b_len bt_len (pa_cons (pv 1) pa_nil))))
      (pss_cons (ps_set (i := 9) sc_law.nd rfl (Or.inl rfl) (pe_tupS (pa_cons (pe_op op_mod (pe_op op_fdiv (pe_ix ix_list (pv 4) pe_int (fun _ _ => rfl)) pe_int) pe_int) (pa_cons (pe_op op_add pe_int (pe_op op_mod (pe_op op_fdiv (pe_ix ix_list (pv 4) pe_int (fun _ _ => rfl)) pe_int) pe_int)) pa_nil))))
      (pss_cons (ps_set (i := 10) sc_law.nd rfl (Or.inl rfl) (pe_op op_catS (pe_op op_catS (pe_slice sl_listS (pv 1) po_none (po_some (pv 8))) (pe_lstS (pa_cons (pe_op (op_catTK (K := K) rfl) (pe_op (op_catTK (K := K) rfl) (pe_slice (sl_tupK (K := K) rfl) (pe_ix ix_list (pv 1) (pv 8) (fun _ _ => rfl)) po_none (po_some pe_int)) (pe_tupS (pa_cons (pv 9) pa_nil))) (pe_slice (sl_tupK (K := K) rfl) (pe_ix ix_list (pv 1) (pv 8) (fun _ _ => rfl)) (po_some pe_int) po_none)) pa_nil))) (pe_slice sl_listS (pv 1) (po_some (pe_op op_add (pv 8) pe_int)) po_none)))
      (pss_cons (ps_if (pt_not (pt_val (pe_cal C_law_right (hr.mono (by decide)) rfl (pai (pai_cons (pv 6) (pai_cons (pv 7) (pai_cons (pv 2) (pai_cons (pv 1) pai_nil)))))))) (pss_one (ps_ret pe_bl)) pss_nil)
      (pss_cons (ps_if (pt_not (pt_val (pe_cal C_law_right (hr.mono (by decide)) rfl (pai (pai_cons (pv 6) (pai_cons (pv 7) (pai_cons (pe_mth (k := 9) (pv 2) (hr.mono (by decide)) passesE0 (pa_cons (pe_ix ix_tup (pe_ix ix_list (pv 1) (pv 8) (fun _ _ => rfl)) pe_int (fun _ _ => rfl)) (pa_cons (pv 9) pa_nil))) (pai_cons (pv 10) pai_nil)))))))) (pss_one (ps_ret pe_bl)) pss_nil)
      (pss_one (ps_if (pt_not (pt_val (pe_cal C_law_right (hr.mono (by decide)) rfl (pai (pai_cons (pv 6) (pai_cons (pv 7) (pai_cons (pv 2) (pai_cons (pv 1) pai_nil)))))))) (pss_one (ps_ret pe_bl)) pss_nil))))))))))))
      (pss_one (ps_ret pe_bl))))), ?_⟩
  refine ⟨_, rfl, a, ns, rfl, hS, fun l xs H1 s1 n1 hx ro => ?_⟩
  have lx0 := ro.l0
  have lx1 := ro.l1
  rw [List.length_map] at lx0 lx1
  refine ⟨_, rfl, l, _, rfl, .inl (SqL.of hx.at_), fun l2 H2 s2 n2 h2 => ?_⟩
  refine ⟨_, rfl, .inl ⟨l2, xs, rfl, ⟨h2, fun z hz => (hx.sr z hz).same s2⟩, ro, fun s H3 s3 hst => ?_⟩⟩
  have s03 := s1.trans (s2.trans s3)
  have hx3 := hx.same (s2.trans s3)
  obtain ⟨ms, ems⟩ := cut_ints ns (some 9) (some 49)
  have ml : ms.length ≤ 63 := by
    have := congrArg List.length ems
    have c := cutV_length (ns.map V.int) (some 9) (some 49)
    rw [List.length_map] at c this
    omega
  refine ⟨_, rfl, _, rfl, _, rfl, a, _, rfl, s03.seq hS, fun l7 H7 s7 n7 h7 => ⟨sz 1 (by decide), fun l8 H8 s8 n8 h8 => ?_⟩⟩
  rw [ems] at h7
  refine ⟨l7, l8, _, _, rfl, rfl, s8 _ _ h7, h8, ?_, fun l9 H9 s9 n9 h9 => ⟨l9, rfl, ⟨_, SqL.of h9⟩, ?_⟩⟩
  · rw [List.length_map]
    exact sz _ (by show ms.length + 1 ≤ 1000; omega)
  have e9 : ms.map V.int ++ [V.int 3] = (ms ++ [3]).map V.int := by rw [List.map_append]; rfl
  rw [e9] at h9
  have s39 := s7.trans (s8.trans s9)
  have hx9 := hx3.same s39
  have hst9 := hst.same s39
  refine for_list (K := K) (a := l9) (xs := (ms ++ [3]).map V.int) (fun i σ H' => ∃ (v3 v4 v5 v6 v7 v8 v9 v10 : Option V), σ = [some (.ref a), some (.ref l), some (.ref s), v3, v4, v5, v6, v7, v8, v9, v10] ∧ Same H9 H')
    ⟨_, _, _, _, _, _, _, _, rfl, Same.refl _⟩ (fun i σ H' _ ⟨_, _, _, _, _, _, _, _, _, s⟩ => SqL.of (s _ _ h9)) ?_ ?_
  · rintro i x σ HA hi ⟨v3, v4, v5, v6, v7, v8, v9, v10, rfl, sA⟩
    obtain ⟨c, hc, rfl⟩ := List.mem_map.mp (List.mem_of_getElem? hi)
    refine ⟨_, rfl, by decide, by decide, ?_⟩
    refine comp_rangeV (fun v => ∃ i : Int, v = .int i ∧ 0 ≤ i) (fun i Hh Q' hi q' => q') (fun i Hh Q' hi sh q' => ⟨_, rfl, _, rfl, c, _, rfl, by omega, fun r r0 => q' _ Hh (Same.refl _) ⟨r, rfl, r0⟩⟩) (small1000 (by decide)) (fun ln HB vs sB nB hB lv hv => ?_)
    obtain ⟨m0, m1, m2, m3, m4, rfl, p0, p3, p4⟩ := five lv hv
    have sAB := sA.trans sB
    have hxB := hx9.same sAB
    have lpos : (0 : Int) < (xs.length : Int) := by omega
    have mlx : (xs.map fun z => V.ref z.1).length = xs.length := List.length_map _
    have pick : ∀ m : Int, ∃ (k : Nat) (z : Addr × SR), k < xs.length ∧ xs[k]? = some z ∧ m % ((xs.map fun z => V.ref z.1).length : Int) = (k : Int) := fun m => by
      rw [mlx]
      have g0 := Int.emod_nonneg m (show ((xs.length : Nat) : Int) ≠ 0 by omega)
      have g1 := Int.emod_lt_of_pos m lpos
      exact ⟨(m % (xs.length : Int)).toNat, _, by omega, List.getElem?_eq_getElem (by omega), by omega⟩
    have pos2 : (0 : Int) < ((xs.map fun z => V.ref z.1).length : Int) := by rw [mlx]; exact lpos
    have atx : ∀ {k : Nat} {z : Addr × SR}, xs[k]? = some z → atI (xs.map fun z => V.ref z.1) (k : Int) = some (.ref z.1) := fun {k z} h => atI_nat (by rw [List.getElem?_map, h]; rfl)
    obtain ⟨k0, z0, lk0, hz0, ek0⟩ := pick m4
    obtain ⟨pw0, ps0, y1, y2, y3⟩ := hxB.sr z0 (List.mem_of_getElem? hz0)
    refine ⟨_, rfl, _, rfl, ln, _, _, _, rfl, rfl, SqL.of hB, rfl, _, rfl, l, _, rfl, .inl (SqL.of hxB.at_), _, _, rfl, rfl, pos2, l, _, _, _, rfl, rfl, SqL.of hxB.at_, (by rw [ek0]; exact atx hz0), z0.1, _, _, _, rfl, rfl, SqT.of y1, rfl, ?_⟩
    refine ⟨fun σ' H' => ∃ nm : Str, σ' = [some (.ref a), some (.ref l), some (.ref s), some (.int c), some (.ref ln), some (.str nm), v6, v7, v8, v9, v10] ∧ Same HB H', ?_, ?_⟩
    · refine ⟨_, rfl, ln, _, _, _, rfl, rfl, SqL.of hB, rfl, _, _, rfl, rfl, ⟨by decide, by decide⟩, _, _, rfl, rfl, (by show (0 : Int) < _; decide), rfl, _, rfl, ?_⟩
      refine ite2 (fun _ => ?_) (fun _ => ⟨_, rfl, Same.refl _⟩)
      refine ⟨sz 4 (by decide), fun lq HC sC nC hC => ?_⟩
      obtain ⟨v, ev, mv⟩ := at_any (xs := [V.str "z", V.str "ab", V.str "hhhhhhhh", V.str "zz"]) (m4 / 48) (m := 4) rfl (by simp)
      have : ∃ nm : Str, v = .str nm := by
        simp only [List.mem_cons, List.not_mem_nil, or_false] at mv
        rcases mv with rfl | rfl | rfl | rfl <;> exact ⟨_, rfl⟩
      obtain ⟨nm, rfl⟩ := this
      exact ⟨_, rfl, ln, _, _, _, rfl, rfl, SqL.of (sC _ _ hB), rfl, _, _, rfl, rfl, ⟨by decide, by decide⟩, _, _, rfl, rfl, (by show (0 : Int) < _; decide), lq, _, _, _, rfl, rfl, SqL.of hC, ev, nm, rfl, sC⟩
    · rintro σ' HC ⟨nm, rfl, sC⟩
      have hBC := sC _ _ hB
      refine ⟨_, rfl, _, rfl, ln, m0, m1, m2, m3, m4, nm, rfl, hBC, p0, p3, fun tp pa d p HD sD hD hp po enm => ?_⟩
      refine ⟨tp, _, rfl, SqT.of hD, rfl, _, _, rfl, _, _, rfl, rfl, ?_⟩
      have sBD := sC.trans sD
      have hBD := sBD _ _ hB
      have hxD := hxB.same sBD
      obtain ⟨k, z, lk, hz, ek⟩ := pick (m4 / 192)
      refine ⟨_, rfl, ln, _, _, _, rfl, rfl, SqL.of hBD, rfl, _, _, rfl, rfl, ⟨by decide, by decide⟩, _, rfl, l, _, rfl, .inl (SqL.of hxD.at_), _, _, rfl, rfl, pos2, ?_⟩
      dsimp only
      rw [ek]
      obtain ⟨pw, ps, z1, z2, z3⟩ := hxD.sr z (List.mem_of_getElem? hz)
      have okz := ro.ok _ (List.mem_map_of_mem (List.mem_of_getElem? hz))
      refine ⟨_, rfl, ln, _, _, _, rfl, rfl, SqL.of hBD, rfl, _, _, rfl, rfl, ⟨by decide, by decide⟩, _, _, rfl, rfl, (by show (0 : Int) < _; decide), _, rfl, ln, _, _, _, rfl, rfl, SqL.of hBD, rfl, _, _, rfl, rfl, ⟨by decide, by decide⟩, _, _, rfl, rfl, (by show (0 : Int) < _; decide), _, _, rfl, rfl, sz 2 (by decide), fun pv HE sE nE hE => ?_⟩
      have c0 : 0 ≤ m4 / 1536 % 30 := by omega
      have c1 : m4 / 1536 % 30 ≤ 1000000 := by omega
      have d0 : 1 ≤ 1 + m4 / 46080 % 12 := by omega
      have d1 : 1 + m4 / 46080 % 12 ≤ 12 := by omega
      dsimp only at hE
      generalize m4 / 1536 % 30 = sc at c0 c1 hE
      generalize 1 + m4 / 46080 % 12 = sd at d0 d1 hE
      have hxE := hxD.same sE
      have lle : k ≤ (xs.map fun z => V.ref z.1).length := by rw [mlx]; omega
      have lle1 : k + 1 ≤ (xs.map fun z => V.ref z.1).length := by rw [mlx]; omega
      have sz9 : (1000 : Nat) ≤ sizeLine := by decide
      refine ⟨_, rfl, _, rfl, _, rfl, l, _, rfl, SqL.of hxE.at_, fun q1 HF sF nF hF => ?_⟩
      rw [cut_to _ lle] at hF
      have zF := sE.trans sF
      refine ⟨_, rfl, _, rfl, l, _, _, _, rfl, rfl, SqL.of (hxE.same sF).at_, atx hz, _, rfl, z.1, _, rfl, SqT.of (zF _ _ z1), (fun h => absurd (show (2 : Nat) = 5 from h.2) (by decide)), fun t1 HG sG nG hG => ?_⟩
      have hG : HG t1 = some (.tup [.str z.2.nm, .ref pw]) := hG
      refine ⟨_, rfl, sz 1 (by decide), fun t2 HH sH nH hH => ?_⟩
      refine ⟨t1, t2, _, _, rfl, rfl, SqT.of (sH _ _ hG), SqT.of hH, List.cons_ne_nil _ _, List.cons_ne_nil _ _, by show 3 ≤ sizeLine; decide, fun t3 HI sI nI hI => ?_⟩
      have zFI := sG.trans (sH.trans sI)
      refine ⟨_, rfl, _, rfl, l, _, _, _, rfl, rfl, SqL.of ((hxE.same sF).same zFI).at_, atx hz, _, rfl, z.1, _, rfl, SqT.of ((zF.trans zFI) _ _ z1), (fun h => absurd (show (3 : Nat) = 0 from h.1) (by decide)), fun t4 HJ sJ nJ hJ => ?_⟩
      have hJ : HJ t4 = some (.tup [.int z.2.sp, .int z.2.tr]) := hJ
      refine ⟨t3, t4, _, _, rfl, rfl, SqT.of (sJ _ _ hI), SqT.of hJ, List.cons_ne_nil _ _, List.cons_ne_nil _ _, by show 5 ≤ sizeLine; decide, fun t5 HK sK nK hK => ?_⟩
      refine ⟨sz 1 (by decide), fun q2 HL sL nL hL => ?_⟩
      have zFL := zFI.trans (sJ.trans (sK.trans sL))
      refine ⟨q1, q2, _, _, rfl, rfl, zFL _ _ hF, hL, by rw [List.length_take, mlx]; show min k xs.length + 1 ≤ sizeLine; omega, fun q3 HM sM nM hM => ?_⟩
      have zEM := sF.trans (zFL.trans sM)
      refine ⟨_, rfl, _, rfl, _, _, rfl, rfl, _, rfl, l, _, rfl, SqL.of (hxE.same zEM).at_, fun q4 HN sN nN hN => ?_⟩
      have hN : HN q4 = some (.lst ((xs.map fun z => V.ref z.1).drop (k + 1))) := by
        rw [hN]
        exact congrArg (fun l => some (HO.lst l)) (cut_from _ lle1)
      refine ⟨q3, q4, _, _, rfl, rfl, sN _ _ hM, hN, by rw [List.length_append, List.length_take, List.length_drop, mlx]; show min k xs.length + 1 + (xs.length - (k + 1)) ≤ sizeLine; omega, fun q5 HO' sO nO hO => ?_⟩
      rw [set_cut (by rw [mlx]; exact lk)] at hO
      have zEO := zEM.trans (sN.trans sO)
      have zKO := sL.trans (sM.trans (sN.trans sO))
      have zDO := sE.trans zEO
      have hrow : IsSR HO' t5 { z.2 with c := sc, d := sd } := ⟨pw, pv, zKO _ _ hK, zDO _ _ z2, zEO _ _ hE⟩
      have hxO := hxD.same zDO
      have hoth : IsSRs HO' q5 (xs.set k (t5, { z.2 with c := sc, d := sd })) := by
        refine ⟨by rw [hO, List.map_set], fun w hw => ?_⟩
        rcases List.mem_or_eq_of_mem_set hw with e | e
        · exact hxO.sr w e
        · rw [e]
          exact hrow
      have ok' : ({ z.2 with c := sc, d := sd } : SR).Ok := { okz with c0 := c0, c1 := c1, d0 := d0, d1 := d1 }
      have roth : RsOk ((xs.set k (t5, { z.2 with c := sc, d := sd })).map (·.2)) := by
        rw [List.map_set]
        exact set_ok ro (show (xs.map (·.2))[k]? = some z.2 by rw [List.getElem?_map, hz]; rfl) rfl ok'
      have s9D := sAB.trans sBD
      have hstO := hst9.same (s9D.trans zDO)
      have hpO := hp.same zDO
      refine ⟨_, rfl, _, rfl, _, rfl, _, rfl, pa, s, l, d, p, xs, rfl, hpO, po, hxO, ro, hstO, fun HP sP => ⟨_, rfl, iteF ?_⟩⟩
      have hstP := hstO.same sP
      have hstP' := hstP
      obtain ⟨sdx, sl, sxs, f1, _, _⟩ := hstP'
      have zl : RsOk (xs.map (·.2.low)) := by
        refine ⟨by rw [List.length_map]; exact lx0, by rw [List.length_map]; exact lx1, fun r hr => ?_, fun i j r t hi hj e => ?_⟩
        · obtain ⟨w, hw, rfl⟩ := List.mem_map.mp hr
          exact (ro.ok _ (List.mem_map_of_mem hw)).low
        · rw [List.getElem?_map] at hi hj
          cases ei : xs[i]? with
          | none => rw [ei] at hi; cases hi
          | some wi =>
          cases ej : xs[j]? with
          | none => rw [ej] at hj; cases hj
          | some wj =>
          rw [ei] at hi
          rw [ej] at hj
          cases hi
          cases hj
          exact ro.nd i j wi.2 wj.2 (by rw [List.getElem?_map, ei]; rfl) (by rw [List.getElem?_map, ej]; rfl) e
      refine ⟨_, rfl, _, rfl, _, rfl, s, c_Sorts, sdx, _, _, rfl, f1, rfl, M_with_speed, _, rfl, _, rfl, l, _, _, _, rfl, rfl, SqL.of (hxO.same sP).at_, atx hz, z.1, _, _, _, rfl, rfl, SqT.of ((zDO.trans sP) _ _ z1), rfl, _, rfl, s, _, _, _, rfl, hstP, zl, fun r hr => ?_, .inl ⟨k, z.2.low, by rw [List.getElem?_map, hz]; rfl, rfl, .inl ⟨pv, sc, sd, rfl, (zEO.trans sP) _ _ hE, c0, c1, d0, d1, fun s2' HQ sQ hst2 => ?_⟩⟩⟩
      · obtain ⟨w, hw, rfl⟩ := List.mem_map.mp hr
        exact (ro.ok _ (List.mem_map_of_mem hw)).low2
      rw [st_speed (t := t5) ro hz] at hst2
      refine ⟨_, rfl, pa, s2', q5, d, p, _, rfl, (hpO.same sP).same sQ, po, (hoth.same sP).same sQ, roth, hst2, fun HR sR => ⟨_, rfl, iteF ?_⟩⟩
      have zOR := sP.trans (sQ.trans sR)
      exact ⟨_, rfl, _, rfl, _, rfl, _, rfl, pa, s, l, d, p, xs, rfl, hpO.same zOR, po, hxO.same zOR, ro, hstO.same zOR, fun HS sS => ⟨_, rfl, iteF ⟨_, _, _, _, _, _, _, _, rfl, s9D.trans (zDO.trans (zOR.trans sS))⟩⟩⟩
  · rintro σ H' ⟨_, _, _, _, _, _, _, _, rfl, _⟩
    exact q H'
end
theorem all_mk {l : PySem.W.OpenLaw} {w : World} {K : PySem.W.Frag} {h : Heap} {mg : Str → Option Value} {fa f0 f1 f2 f3 f4 f5 f6 f7 f8 f9 f10 f11 f12 f13 f14 f15 f16 f17 f18 f19 f20 : Addr} (X : K.In h) (G : h.Ns mainGlobals mg) (hfa : mg "law" = some (.ref fa))
    {od0 an0 od1 an1 od2 an2 od3 an3 od4 an4 od5 an5 od6 an6 od7 an7 od8 an8 od9 an9 od10 an10 od11 an11 od12 an12 od13 an13 od14 an14 od15 an15 od16 an16 od17 an17 od18 an18 od19 an19 od20 an20 : Option Addr} {sl0 sl1 sl2 sl3 sl4 sl5 sl6 sl7 sl8 sl9 sl10 sl11 sl12 sl13 sl14 sl15 sl16 sl17 sl18 sl19 sl20 : Array (Option Value)} {oc0 kV0 dc0 pm0 cd0 ct0 oc1 kV1 dc1 pm1 cd1 ct1 oc2 kV2 dc2 pm2 cd2 ct2 oc3 kV3 dc3 pm3 cd3 ct3 oc4 kV4 dc4 pm4 cd4 ct4 oc5 kV5 dc5 pm5 cd5 ct5 oc6 kV6 dc6 pm6 cd6 ct6 oc7 kV7 dc7 pm7 cd7 ct7 oc8 kV8 dc8 pm8 cd8 ct8 oc9 kV9 dc9 pm9 cd9 ct9 oc10 kV10 dc10 pm10 cd10 ct10 oc11 kV11 dc11 pm11 cd11 ct11 oc12 kV12 dc12 pm12 cd12 ct12 oc13 kV13 dc13 pm13 cd13 ct13 oc14 kV14 dc14 pm14 cd14 ct14 oc15 kV15 dc15 pm15 cd15 ct15 oc16 kV16 dc16 pm16 cd16 ct16 oc17 kV17 dc17 pm17 cd17 ct17 oc18 kV18 dc18 pm18 cd18 ct18 oc19 kV19 dc19 pm19 cd19 ct19 oc20 kV20 dc20 pm20 cd20 ct20 : Value}
    {tk_LONGEST_NAME tk_MOST_TOP tk_MOST_BOTTOM tk_MOST_SORTS tk_MOST_SPAN tk_MOST_TRIES : Tok}
    (a0 : PySem.W.nsIn K mainGlobals "claim_of" = some (some (.ref f0))) (l0 : K.lookup f0 = some ⟨oc0, od0, .func (PySem.W.fnOf "claim_of" "claim_of" (defArgs s_claim_of) (defBody s_claim_of) (defScope s_claim_of) .none kV0 dc0 pm0 an0 cd0 ct0), sl0⟩) (c0 : PySem.W.codeIn K cd0 "claim_of" = true) (k0 : PySem.W.keepIn K (.ref f0) = true)
    (a1 : PySem.W.nsIn K mainGlobals "chore_of" = some (some (.ref f1))) (l1 : K.lookup f1 = some ⟨oc1, od1, .func (PySem.W.fnOf "chore_of" "chore_of" (defArgs s_chore_of) (defBody s_chore_of) (defScope s_chore_of) .none kV1 dc1 pm1 an1 cd1 ct1), sl1⟩) (c1 : PySem.W.codeIn K cd1 "chore_of" = true) (k1 : PySem.W.keepIn K (.ref f1) = true)
    (a2 : PySem.W.nsIn K mainGlobals "is_whole" = some (some (.ref f2))) (l2 : K.lookup f2 = some ⟨oc2, od2, .func (PySem.W.fnOf "is_whole" "is_whole" (defArgs s_is_whole) (defBody s_is_whole) (defScope s_is_whole) .none kV2 dc2 pm2 an2 cd2 ct2), sl2⟩) (c2 : PySem.W.codeIn K cd2 "is_whole" = true) (k2 : PySem.W.keepIn K (.ref f2) = true)
    (a3 : PySem.W.nsIn K mainGlobals "all_between" = some (some (.ref f3))) (l3 : K.lookup f3 = some ⟨oc3, od3, .func (PySem.W.fnOf "all_between" "all_between" (defArgs s_all_between) (defBody s_all_between) (defScope s_all_between) .none kV3 dc3 pm3 an3 cd3 ct3), sl3⟩) (c3 : PySem.W.codeIn K cd3 "all_between" = true) (k3 : PySem.W.keepIn K (.ref f3) = true)
    (a4 : PySem.W.nsIn K mainGlobals "is_name" = some (some (.ref f4))) (l4 : K.lookup f4 = some ⟨oc4, od4, .func (PySem.W.fnOf "is_name" "is_name" (defArgs s_is_name) (defBody s_is_name) (defScope s_is_name) .none kV4 dc4 pm4 an4 cd4 ct4), sl4⟩) (c4 : PySem.W.codeIn K cd4 "is_name" = true) (k4 : PySem.W.keepIn K (.ref f4) = true)
    (a5 : PySem.W.nsIn K mainGlobals "common_divisor" = some (some (.ref f5))) (l5 : K.lookup f5 = some ⟨oc5, od5, .func (PySem.W.fnOf "common_divisor" "common_divisor" (defArgs s_common_divisor) (defBody s_common_divisor) (defScope s_common_divisor) .none kV5 dc5 pm5 an5 cd5 ct5), sl5⟩) (c5 : PySem.W.codeIn K cd5 "common_divisor" = true) (k5 : PySem.W.keepIn K (.ref f5) = true)
    (a6 : PySem.W.nsIn K mainGlobals "lowest" = some (some (.ref f6))) (l6 : K.lookup f6 = some ⟨oc6, od6, .func (PySem.W.fnOf "lowest" "lowest" (defArgs s_lowest) (defBody s_lowest) (defScope s_lowest) .none kV6 dc6 pm6 an6 cd6 ct6), sl6⟩) (c6 : PySem.W.codeIn K cd6 "lowest" = true) (k6 : PySem.W.keepIn K (.ref f6) = true)
    (a7 : PySem.W.nsIn K mainGlobals "is_weight" = some (some (.ref f7))) (l7 : K.lookup f7 = some ⟨oc7, od7, .func (PySem.W.fnOf "is_weight" "is_weight" (defArgs s_is_weight) (defBody s_is_weight) (defScope s_is_weight) .none kV7 dc7 pm7 an7 cd7 ct7), sl7⟩) (c7 : PySem.W.codeIn K cd7 "is_weight" = true) (k7 : PySem.W.keepIn K (.ref f7) = true)
    (a8 : PySem.W.nsIn K mainGlobals "is_row" = some (some (.ref f8))) (l8 : K.lookup f8 = some ⟨oc8, od8, .func (PySem.W.fnOf "is_row" "is_row" (defArgs s_is_row) (defBody s_is_row) (defScope s_is_row) .none kV8 dc8 pm8 an8 cd8 ct8), sl8⟩) (c8 : PySem.W.codeIn K cd8 "is_row" = true) (k8 : PySem.W.keepIn K (.ref f8) = true)
    (a9 : PySem.W.nsIn K mainGlobals "are_rows" = some (some (.ref f9))) (l9 : K.lookup f9 = some ⟨oc9, od9, .func (PySem.W.fnOf "are_rows" "are_rows" (defArgs s_are_rows) (defBody s_are_rows) (defScope s_are_rows) .none kV9 dc9 pm9 an9 cd9 ct9), sl9⟩) (c9 : PySem.W.codeIn K cd9 "are_rows" = true) (k9 : PySem.W.keepIn K (.ref f9) = true)
    (a10 : PySem.W.nsIn K mainGlobals "in_lowest" = some (some (.ref f10))) (l10 : K.lookup f10 = some ⟨oc10, od10, .func (PySem.W.fnOf "in_lowest" "in_lowest" (defArgs s_in_lowest) (defBody s_in_lowest) (defScope s_in_lowest) .none kV10 dc10 pm10 an10 cd10 ct10), sl10⟩) (c10 : PySem.W.codeIn K cd10 "in_lowest" = true) (k10 : PySem.W.keepIn K (.ref f10) = true)
    (a11 : PySem.W.nsIn K mainGlobals "sort_from" = some (some (.ref f11))) (l11 : K.lookup f11 = some ⟨oc11, od11, .func (PySem.W.fnOf "sort_from" "sort_from" (defArgs s_sort_from) (defBody s_sort_from) (defScope s_sort_from) .none kV11 dc11 pm11 an11 cd11 ct11), sl11⟩) (c11 : PySem.W.codeIn K cd11 "sort_from" = true) (k11 : PySem.W.keepIn K (.ref f11) = true)
    (a12 : PySem.W.nsIn K mainGlobals "_law_cell" = some (some (.ref f12))) (l12 : K.lookup f12 = some ⟨oc12, od12, .func (PySem.W.fnOf "_law_cell" "_law_cell" (defArgs s_law_cell) (defBody s_law_cell) (defScope s_law_cell) .none kV12 dc12 pm12 an12 cd12 ct12), sl12⟩) (c12 : PySem.W.codeIn K cd12 "_law_cell" = true) (k12 : PySem.W.keepIn K (.ref f12) = true)
    (a13 : PySem.W.nsIn K mainGlobals "_law_mix" = some (some (.ref f13))) (l13 : K.lookup f13 = some ⟨oc13, od13, .func (PySem.W.fnOf "_law_mix" "_law_mix" (defArgs s_law_mix) (defBody s_law_mix) (defScope s_law_mix) .none kV13 dc13 pm13 an13 cd13 ct13), sl13⟩) (c13 : PySem.W.codeIn K cd13 "_law_mix" = true) (k13 : PySem.W.keepIn K (.ref f13) = true)
    (a14 : PySem.W.nsIn K mainGlobals "_law_draw" = some (some (.ref f14))) (l14 : K.lookup f14 = some ⟨oc14, od14, .func (PySem.W.fnOf "_law_draw" "_law_draw" (defArgs s_law_draw) (defBody s_law_draw) (defScope s_law_draw) .none kV14 dc14 pm14 an14 cd14 ct14), sl14⟩) (c14 : PySem.W.codeIn K cd14 "_law_draw" = true) (k14 : PySem.W.keepIn K (.ref f14) = true)
    (a15 : PySem.W.nsIn K mainGlobals "_law_lowest" = some (some (.ref f15))) (l15 : K.lookup f15 = some ⟨oc15, od15, .func (PySem.W.fnOf "_law_lowest" "_law_lowest" (defArgs s_law_lowest) (defBody s_law_lowest) (defScope s_law_lowest) .none kV15 dc15 pm15 an15 cd15 ct15), sl15⟩) (c15 : PySem.W.codeIn K cd15 "_law_lowest" = true) (k15 : PySem.W.keepIn K (.ref f15) = true)
    (a16 : PySem.W.nsIn K mainGlobals "_law_rows" = some (some (.ref f16))) (l16 : K.lookup f16 = some ⟨oc16, od16, .func (PySem.W.fnOf "_law_rows" "_law_rows" (defArgs s_law_rows) (defBody s_law_rows) (defScope s_law_rows) .none kV16 dc16 pm16 an16 cd16 ct16), sl16⟩) (c16 : PySem.W.codeIn K cd16 "_law_rows" = true) (k16 : PySem.W.keepIn K (.ref f16) = true)
    (a17 : PySem.W.nsIn K mainGlobals "_law_piece" = some (some (.ref f17))) (l17 : K.lookup f17 = some ⟨oc17, od17, .func (PySem.W.fnOf "_law_piece" "_law_piece" (defArgs s_law_piece) (defBody s_law_piece) (defScope s_law_piece) .none kV17 dc17 pm17 an17 cd17 ct17), sl17⟩) (c17 : PySem.W.codeIn K cd17 "_law_piece" = true) (k17 : PySem.W.keepIn K (.ref f17) = true)
    (a18 : PySem.W.nsIn K mainGlobals "_law_told" = some (some (.ref f18))) (l18 : K.lookup f18 = some ⟨oc18, od18, .func (PySem.W.fnOf "_law_told" "_law_told" (defArgs s_law_told) (defBody s_law_told) (defScope s_law_told) .none kV18 dc18 pm18 an18 cd18 ct18), sl18⟩) (c18 : PySem.W.codeIn K cd18 "_law_told" = true) (k18 : PySem.W.keepIn K (.ref f18) = true)
    (a19 : PySem.W.nsIn K mainGlobals "_law_right" = some (some (.ref f19))) (l19 : K.lookup f19 = some ⟨oc19, od19, .func (PySem.W.fnOf "_law_right" "_law_right" (defArgs s_law_right) (defBody s_law_right) (defScope s_law_right) .none kV19 dc19 pm19 an19 cd19 ct19), sl19⟩) (c19 : PySem.W.codeIn K cd19 "_law_right" = true) (k19 : PySem.W.keepIn K (.ref f19) = true)
    (a20 : PySem.W.nsIn K mainGlobals "law" = some (some (.ref f20))) (l20 : K.lookup f20 = some ⟨oc20, od20, .func (PySem.W.fnOf "law" "law" (defArgs s_law) (defBody s_law) (defScope s_law) .none kV20 dc20 pm20 an20 cd20 ct20), sl20⟩) (c20 : PySem.W.codeIn K cd20 "law" = true) (k20 : PySem.W.keepIn K (.ref f20) = true)
    (z_abs : PySem.W.nsIn K mainGlobals "abs" = some none)
    (z_all : PySem.W.nsIn K mainGlobals "all" = some none)
    (z_bool : PySem.W.nsIn K mainGlobals "bool" = some none)
    (z_int : PySem.W.nsIn K mainGlobals "int" = some none)
    (z_isinstance : PySem.W.nsIn K mainGlobals "isinstance" = some none)
    (z_len : PySem.W.nsIn K mainGlobals "len" = some none)
    (z_list : PySem.W.nsIn K mainGlobals "list" = some none)
    (z_range : PySem.W.nsIn K mainGlobals "range" = some none)
    (z_set : PySem.W.nsIn K mainGlobals "set" = some none)
    (z_str : PySem.W.nsIn K mainGlobals "str" = some none)
    (z_tuple : PySem.W.nsIn K mainGlobals "tuple" = some none)
    (g_LONGEST_NAME : PySem.W.nsIn K mainGlobals "LONGEST_NAME" = some (some (.int 8 tk_LONGEST_NAME)))
    (g_MOST_TOP : PySem.W.nsIn K mainGlobals "MOST_TOP" = some (some (.int 1000000 tk_MOST_TOP)))
    (g_MOST_BOTTOM : PySem.W.nsIn K mainGlobals "MOST_BOTTOM" = some (some (.int 12 tk_MOST_BOTTOM)))
    (g_MOST_SORTS : PySem.W.nsIn K mainGlobals "MOST_SORTS" = some (some (.int 8 tk_MOST_SORTS)))
    (g_MOST_SPAN : PySem.W.nsIn K mainGlobals "MOST_SPAN" = some (some (.int 4 tk_MOST_SPAN)))
    (g_MOST_TRIES : PySem.W.nsIn K mainGlobals "MOST_TRIES" = some (some (.int 3 tk_MOST_TRIES)))
    {c_WaitError c_NoWeight c_NoSorts c_NoSort c_Over c_Piece c_Held c_Waiting c_Done c_GivenUp c_CalledOff c_Missed c_Sort c_Sorts : Addr} {cd_WaitError cd_NoWeight cd_NoSorts cd_NoSort cd_Over : ClassData}
    {fi_NoSort fi_Over : Addr} {xod_NoSort xan_NoSort xod_Over xan_Over : Option Addr} {xsl_NoSort xsl_Over : Array (Option Value)} {xoc_NoSort xkV_NoSort xdc_NoSort xpm_NoSort xcd_NoSort xct_NoSort xoc_Over xkV_Over xdc_Over xpm_Over xcd_Over xct_Over : Value}
    (xcg : PySem.W.specialIn K (.builtin "object.__class__") "__get__" = some (some (.builtin "getset_descriptor.__get__"))) (xct : PySem.W.takesIn K (.builtin "object.__class__") = some true)
    (xa_WaitError : PySem.W.nsIn K mainGlobals "WaitError" = some (some (.ref c_WaitError))) (xd_WaitError : PySem.W.clsIn K c_WaitError = some cd_WaitError) (xt_WaitError : PySem.W.typeIn K (.ref c_WaitError) = some (.type "type"))
    (x1_WaitError : PySem.W.findIn K (.ref c_WaitError) "__setattr__" = some (some (.builtin "object.__setattr__"))) (x2_WaitError : PySem.W.findIn K (.ref c_WaitError) "__getattribute__" = some (some (.builtin "BaseException.__getattribute__"))) (x3_WaitError : PySem.W.findIn K (.ref c_WaitError) "__getattr__" = some none) (x4_WaitError : PySem.W.hasDictIn K c_WaitError = true)
    (x5_WaitError : PySem.W.findIn K (.ref c_WaitError) "__class__" = some (some (.builtin "object.__class__"))) (x6_WaitError : PySem.W.mroIn K c_WaitError (.type "object") = some true) (x7_WaitError : PySem.W.keepIn K (.ref c_WaitError) = true)
    (z1_WaitError : cd_WaitError.mro = [.ref c_WaitError, .type "ValueError", .type "Exception", .type "BaseException", .type "object"]) (z2_WaitError : PySem.W.xcIn K c_WaitError none = true)
    (xa_NoWeight : PySem.W.nsIn K mainGlobals "NoWeight" = some (some (.ref c_NoWeight))) (xd_NoWeight : PySem.W.clsIn K c_NoWeight = some cd_NoWeight) (xt_NoWeight : PySem.W.typeIn K (.ref c_NoWeight) = some (.type "type"))
    (x1_NoWeight : PySem.W.findIn K (.ref c_NoWeight) "__setattr__" = some (some (.builtin "object.__setattr__"))) (x2_NoWeight : PySem.W.findIn K (.ref c_NoWeight) "__getattribute__" = some (some (.builtin "BaseException.__getattribute__"))) (x3_NoWeight : PySem.W.findIn K (.ref c_NoWeight) "__getattr__" = some none) (x4_NoWeight : PySem.W.hasDictIn K c_NoWeight = true)
    (x5_NoWeight : PySem.W.findIn K (.ref c_NoWeight) "__class__" = some (some (.builtin "object.__class__"))) (x6_NoWeight : PySem.W.mroIn K c_NoWeight (.type "object") = some true) (x7_NoWeight : PySem.W.keepIn K (.ref c_NoWeight) = true)
    (z1_NoWeight : cd_NoWeight.mro = [.ref c_NoWeight, .ref c_WaitError, .type "ValueError", .type "Exception", .type "BaseException", .type "object"]) (z2_NoWeight : PySem.W.xcIn K c_NoWeight none = true)
    (xa_NoSorts : PySem.W.nsIn K mainGlobals "NoSorts" = some (some (.ref c_NoSorts))) (xd_NoSorts : PySem.W.clsIn K c_NoSorts = some cd_NoSorts) (xt_NoSorts : PySem.W.typeIn K (.ref c_NoSorts) = some (.type "type"))
    (x1_NoSorts : PySem.W.findIn K (.ref c_NoSorts) "__setattr__" = some (some (.builtin "object.__setattr__"))) (x2_NoSorts : PySem.W.findIn K (.ref c_NoSorts) "__getattribute__" = some (some (.builtin "BaseException.__getattribute__"))) (x3_NoSorts : PySem.W.findIn K (.ref c_NoSorts) "__getattr__" = some none) (x4_NoSorts : PySem.W.hasDictIn K c_NoSorts = true)
    (x5_NoSorts : PySem.W.findIn K (.ref c_NoSorts) "__class__" = some (some (.builtin "object.__class__"))) (x6_NoSorts : PySem.W.mroIn K c_NoSorts (.type "object") = some true) (x7_NoSorts : PySem.W.keepIn K (.ref c_NoSorts) = true)
    (z1_NoSorts : cd_NoSorts.mro = [.ref c_NoSorts, .ref c_WaitError, .type "ValueError", .type "Exception", .type "BaseException", .type "object"]) (z2_NoSorts : PySem.W.xcIn K c_NoSorts none = true)
    (xa_NoSort : PySem.W.nsIn K mainGlobals "NoSort" = some (some (.ref c_NoSort))) (xd_NoSort : PySem.W.clsIn K c_NoSort = some cd_NoSort) (xt_NoSort : PySem.W.typeIn K (.ref c_NoSort) = some (.type "type"))
    (x1_NoSort : PySem.W.findIn K (.ref c_NoSort) "__setattr__" = some (some (.builtin "object.__setattr__"))) (x2_NoSort : PySem.W.findIn K (.ref c_NoSort) "__getattribute__" = some (some (.builtin "BaseException.__getattribute__"))) (x3_NoSort : PySem.W.findIn K (.ref c_NoSort) "__getattr__" = some none) (x4_NoSort : PySem.W.hasDictIn K c_NoSort = true)
    (x5_NoSort : PySem.W.findIn K (.ref c_NoSort) "__class__" = some (some (.builtin "object.__class__"))) (x6_NoSort : PySem.W.mroIn K c_NoSort (.type "object") = some true) (x7_NoSort : PySem.W.keepIn K (.ref c_NoSort) = true)
    (y1_NoSort : PySem.W.findIn K (.ref c_NoSort) "__init__" = some (some (.ref fi_NoSort))) (y2_NoSort : K.lookup fi_NoSort = some ⟨xoc_NoSort, xod_NoSort, .func (PySem.W.fnOf "__init__" "NoSort.__init__" (defArgs si_NoSort) (defBody si_NoSort) (defScope si_NoSort) .none xkV_NoSort xdc_NoSort xpm_NoSort xan_NoSort xcd_NoSort xct_NoSort), xsl_NoSort⟩) (y3_NoSort : PySem.W.codeIn K xcd_NoSort "NoSort.__init__" = true) (y4_NoSort : PySem.W.keepIn K (.ref fi_NoSort) = true) (y5_NoSort : PySem.W.isFn K (.ref fi_NoSort) = true) (y6_NoSort : PySem.W.findIn K (.ref c_NoSort) "name" = some none)
    (z1_NoSort : cd_NoSort.mro = [.ref c_NoSort, .ref c_WaitError, .type "ValueError", .type "Exception", .type "BaseException", .type "object"]) (z2_NoSort : PySem.W.xcIn K c_NoSort (some fi_NoSort) = true)
    (xa_Over : PySem.W.nsIn K mainGlobals "Over" = some (some (.ref c_Over))) (xd_Over : PySem.W.clsIn K c_Over = some cd_Over) (xt_Over : PySem.W.typeIn K (.ref c_Over) = some (.type "type"))
    (x1_Over : PySem.W.findIn K (.ref c_Over) "__setattr__" = some (some (.builtin "object.__setattr__"))) (x2_Over : PySem.W.findIn K (.ref c_Over) "__getattribute__" = some (some (.builtin "BaseException.__getattribute__"))) (x3_Over : PySem.W.findIn K (.ref c_Over) "__getattr__" = some none) (x4_Over : PySem.W.hasDictIn K c_Over = true)
    (x5_Over : PySem.W.findIn K (.ref c_Over) "__class__" = some (some (.builtin "object.__class__"))) (x6_Over : PySem.W.mroIn K c_Over (.type "object") = some true) (x7_Over : PySem.W.keepIn K (.ref c_Over) = true)
    (y1_Over : PySem.W.findIn K (.ref c_Over) "__init__" = some (some (.ref fi_Over))) (y2_Over : K.lookup fi_Over = some ⟨xoc_Over, xod_Over, .func (PySem.W.fnOf "__init__" "Over.__init__" (defArgs si_Over) (defBody si_Over) (defScope si_Over) .none xkV_Over xdc_Over xpm_Over xan_Over xcd_Over xct_Over), xsl_Over⟩) (y3_Over : PySem.W.codeIn K xcd_Over "Over.__init__" = true) (y4_Over : PySem.W.keepIn K (.ref fi_Over) = true) (y5_Over : PySem.W.isFn K (.ref fi_Over) = true) (y6_Over : PySem.W.findIn K (.ref c_Over) "number" = some none)
    (z1_Over : cd_Over.mro = [.ref c_Over, .ref c_WaitError, .type "ValueError", .type "Exception", .type "BaseException", .type "object"]) (z2_Over : PySem.W.xcIn K c_Over (some fi_Over) = true)
    (znd : [c_WaitError, c_NoWeight, c_NoSorts, c_NoSort, c_Over].Nodup)
    {fm_Piece___init__ fm_Held_is_open fm_Piece_work_left fm_Waiting_is_open fm_Piece_is_open fm_Sort___init__ fm_Sort_as_row fm_Sorts___init__ fm_Sorts_sort_of fm_Sorts_with_speed : Addr} {mod_Piece___init__ man_Piece___init__ mod_Held_is_open man_Held_is_open mod_Piece_work_left man_Piece_work_left mod_Waiting_is_open man_Waiting_is_open mod_Piece_is_open man_Piece_is_open mod_Sort___init__ man_Sort___init__ mod_Sort_as_row man_Sort_as_row mod_Sorts___init__ man_Sorts___init__ mod_Sorts_sort_of man_Sorts_sort_of mod_Sorts_with_speed man_Sorts_with_speed : Option Addr} {msl_Piece___init__ msl_Held_is_open msl_Piece_work_left msl_Waiting_is_open msl_Piece_is_open msl_Sort___init__ msl_Sort_as_row msl_Sorts___init__ msl_Sorts_sort_of msl_Sorts_with_speed : Array (Option Value)} {moc_Piece___init__ mkV_Piece___init__ mdc_Piece___init__ mpm_Piece___init__ mcd_Piece___init__ mct_Piece___init__ moc_Held_is_open mkV_Held_is_open mdc_Held_is_open mpm_Held_is_open mcd_Held_is_open mct_Held_is_open moc_Piece_work_left mkV_Piece_work_left mdc_Piece_work_left mpm_Piece_work_left mcd_Piece_work_left mct_Piece_work_left moc_Waiting_is_open mkV_Waiting_is_open mdc_Waiting_is_open mpm_Waiting_is_open mcd_Waiting_is_open mct_Waiting_is_open moc_Piece_is_open mkV_Piece_is_open mdc_Piece_is_open mpm_Piece_is_open mcd_Piece_is_open mct_Piece_is_open moc_Sort___init__ mkV_Sort___init__ mdc_Sort___init__ mpm_Sort___init__ mcd_Sort___init__ mct_Sort___init__ moc_Sort_as_row mkV_Sort_as_row mdc_Sort_as_row mpm_Sort_as_row mcd_Sort_as_row mct_Sort_as_row moc_Sorts___init__ mkV_Sorts___init__ mdc_Sorts___init__ mpm_Sorts___init__ mcd_Sorts___init__ mct_Sorts___init__ moc_Sorts_sort_of mkV_Sorts_sort_of mdc_Sorts_sort_of mpm_Sorts_sort_of mcd_Sorts_sort_of mct_Sorts_sort_of moc_Sorts_with_speed mkV_Sorts_with_speed mdc_Sorts_with_speed mpm_Sorts_with_speed mcd_Sorts_with_speed mct_Sorts_with_speed : Value}
    {mdt_Piece___init__ : Addr} {mto_Piece___init__ : Obj} {mtn_Piece___init__ : Nat} {mtk_Piece___init__ : Tok}
    (oa_Piece : PySem.W.nsIn K mainGlobals "Piece" = some (some (.ref c_Piece)))
    (o1_Piece : PySem.W.plainGet K c_Piece Str.empty = true)
    (o2_Piece : PySem.W.hasDictIn K c_Piece = true)
    (o3_Piece : PySem.W.plainOver K c_Piece = true)
    (o4_Piece : PySem.W.findIn K (.ref c_Piece) "__setattr__" = some (some (.builtin "object.__setattr__")))
    (o5_Piece : PySem.W.findIn K (.ref c_Piece) "__class__" = some (some (.builtin "object.__class__")))
    (o6_Piece : PySem.W.mroIn K c_Piece (.type "object") = some true)
    (oa_Held : PySem.W.nsIn K mainGlobals "Held" = some (some (.ref c_Held)))
    (o1_Held : PySem.W.plainGet K c_Held Str.empty = true)
    (o2_Held : PySem.W.hasDictIn K c_Held = true)
    (o3_Held : PySem.W.plainOver K c_Held = true)
    (o4_Held : PySem.W.findIn K (.ref c_Held) "__setattr__" = some (some (.builtin "object.__setattr__")))
    (o5_Held : PySem.W.findIn K (.ref c_Held) "__class__" = some (some (.builtin "object.__class__")))
    (o6_Held : PySem.W.mroIn K c_Held (.type "object") = some true)
    (o7_Held : PySem.W.makesIn K c_Held = true)
    (o8_Held : PySem.W.keepIn K (.ref c_Held) = true)
    (oi_Held : PySem.W.findIn K (.ref c_Held) "__init__" = some (some (.ref fm_Piece___init__)))
    (on_Held_number : PySem.W.findIn K (.ref c_Held) "number" = some none)
    (on_Held_sort_name : PySem.W.findIn K (.ref c_Held) "sort_name" = some none)
    (on_Held_came : PySem.W.findIn K (.ref c_Held) "came" = some none)
    (on_Held_span : PySem.W.findIn K (.ref c_Held) "span" = some none)
    (on_Held_tries : PySem.W.findIn K (.ref c_Held) "tries" = some none)
    (on_Held_spent : PySem.W.findIn K (.ref c_Held) "spent" = some none)
    (om_Held_is_open : PySem.W.findIn K (.ref c_Held) "is_open" = some (some (.ref fm_Held_is_open)))
    (om_Held_work_left : PySem.W.findIn K (.ref c_Held) "work_left" = some (some (.ref fm_Piece_work_left)))
    (oa_Waiting : PySem.W.nsIn K mainGlobals "Waiting" = some (some (.ref c_Waiting)))
    (o1_Waiting : PySem.W.plainGet K c_Waiting Str.empty = true)
    (o2_Waiting : PySem.W.hasDictIn K c_Waiting = true)
    (o3_Waiting : PySem.W.plainOver K c_Waiting = true)
    (o4_Waiting : PySem.W.findIn K (.ref c_Waiting) "__setattr__" = some (some (.builtin "object.__setattr__")))
    (o5_Waiting : PySem.W.findIn K (.ref c_Waiting) "__class__" = some (some (.builtin "object.__class__")))
    (o6_Waiting : PySem.W.mroIn K c_Waiting (.type "object") = some true)
    (o7_Waiting : PySem.W.makesIn K c_Waiting = true)
    (o8_Waiting : PySem.W.keepIn K (.ref c_Waiting) = true)
    (oi_Waiting : PySem.W.findIn K (.ref c_Waiting) "__init__" = some (some (.ref fm_Piece___init__)))
    (on_Waiting_number : PySem.W.findIn K (.ref c_Waiting) "number" = some none)
    (on_Waiting_sort_name : PySem.W.findIn K (.ref c_Waiting) "sort_name" = some none)
    (on_Waiting_came : PySem.W.findIn K (.ref c_Waiting) "came" = some none)
    (on_Waiting_span : PySem.W.findIn K (.ref c_Waiting) "span" = some none)
    (on_Waiting_tries : PySem.W.findIn K (.ref c_Waiting) "tries" = some none)
    (on_Waiting_spent : PySem.W.findIn K (.ref c_Waiting) "spent" = some none)
    (om_Waiting_is_open : PySem.W.findIn K (.ref c_Waiting) "is_open" = some (some (.ref fm_Waiting_is_open)))
    (om_Waiting_work_left : PySem.W.findIn K (.ref c_Waiting) "work_left" = some (some (.ref fm_Piece_work_left)))
    (oa_Done : PySem.W.nsIn K mainGlobals "Done" = some (some (.ref c_Done)))
    (o1_Done : PySem.W.plainGet K c_Done Str.empty = true)
    (o2_Done : PySem.W.hasDictIn K c_Done = true)
    (o3_Done : PySem.W.plainOver K c_Done = true)
    (o4_Done : PySem.W.findIn K (.ref c_Done) "__setattr__" = some (some (.builtin "object.__setattr__")))
    (o5_Done : PySem.W.findIn K (.ref c_Done) "__class__" = some (some (.builtin "object.__class__")))
    (o6_Done : PySem.W.mroIn K c_Done (.type "object") = some true)
    (o7_Done : PySem.W.makesIn K c_Done = true)
    (o8_Done : PySem.W.keepIn K (.ref c_Done) = true)
    (oi_Done : PySem.W.findIn K (.ref c_Done) "__init__" = some (some (.ref fm_Piece___init__)))
    (on_Done_number : PySem.W.findIn K (.ref c_Done) "number" = some none)
    (on_Done_sort_name : PySem.W.findIn K (.ref c_Done) "sort_name" = some none)
    (on_Done_came : PySem.W.findIn K (.ref c_Done) "came" = some none)
    (on_Done_span : PySem.W.findIn K (.ref c_Done) "span" = some none)
    (on_Done_tries : PySem.W.findIn K (.ref c_Done) "tries" = some none)
    (on_Done_spent : PySem.W.findIn K (.ref c_Done) "spent" = some none)
    (om_Done_is_open : PySem.W.findIn K (.ref c_Done) "is_open" = some (some (.ref fm_Piece_is_open)))
    (om_Done_work_left : PySem.W.findIn K (.ref c_Done) "work_left" = some (some (.ref fm_Piece_work_left)))
    (oa_GivenUp : PySem.W.nsIn K mainGlobals "GivenUp" = some (some (.ref c_GivenUp)))
    (o1_GivenUp : PySem.W.plainGet K c_GivenUp Str.empty = true)
    (o2_GivenUp : PySem.W.hasDictIn K c_GivenUp = true)
    (o3_GivenUp : PySem.W.plainOver K c_GivenUp = true)
    (o4_GivenUp : PySem.W.findIn K (.ref c_GivenUp) "__setattr__" = some (some (.builtin "object.__setattr__")))
    (o5_GivenUp : PySem.W.findIn K (.ref c_GivenUp) "__class__" = some (some (.builtin "object.__class__")))
    (o6_GivenUp : PySem.W.mroIn K c_GivenUp (.type "object") = some true)
    (o7_GivenUp : PySem.W.makesIn K c_GivenUp = true)
    (o8_GivenUp : PySem.W.keepIn K (.ref c_GivenUp) = true)
    (oi_GivenUp : PySem.W.findIn K (.ref c_GivenUp) "__init__" = some (some (.ref fm_Piece___init__)))
    (on_GivenUp_number : PySem.W.findIn K (.ref c_GivenUp) "number" = some none)
    (on_GivenUp_sort_name : PySem.W.findIn K (.ref c_GivenUp) "sort_name" = some none)
    (on_GivenUp_came : PySem.W.findIn K (.ref c_GivenUp) "came" = some none)
    (on_GivenUp_span : PySem.W.findIn K (.ref c_GivenUp) "span" = some none)
    (on_GivenUp_tries : PySem.W.findIn K (.ref c_GivenUp) "tries" = some none)
    (on_GivenUp_spent : PySem.W.findIn K (.ref c_GivenUp) "spent" = some none)
    (om_GivenUp_is_open : PySem.W.findIn K (.ref c_GivenUp) "is_open" = some (some (.ref fm_Piece_is_open)))
    (om_GivenUp_work_left : PySem.W.findIn K (.ref c_GivenUp) "work_left" = some (some (.ref fm_Piece_work_left)))
    (oa_CalledOff : PySem.W.nsIn K mainGlobals "CalledOff" = some (some (.ref c_CalledOff)))
    (o1_CalledOff : PySem.W.plainGet K c_CalledOff Str.empty = true)
    (o2_CalledOff : PySem.W.hasDictIn K c_CalledOff = true)
    (o3_CalledOff : PySem.W.plainOver K c_CalledOff = true)
    (o4_CalledOff : PySem.W.findIn K (.ref c_CalledOff) "__setattr__" = some (some (.builtin "object.__setattr__")))
    (o5_CalledOff : PySem.W.findIn K (.ref c_CalledOff) "__class__" = some (some (.builtin "object.__class__")))
    (o6_CalledOff : PySem.W.mroIn K c_CalledOff (.type "object") = some true)
    (o7_CalledOff : PySem.W.makesIn K c_CalledOff = true)
    (o8_CalledOff : PySem.W.keepIn K (.ref c_CalledOff) = true)
    (oi_CalledOff : PySem.W.findIn K (.ref c_CalledOff) "__init__" = some (some (.ref fm_Piece___init__)))
    (on_CalledOff_number : PySem.W.findIn K (.ref c_CalledOff) "number" = some none)
    (on_CalledOff_sort_name : PySem.W.findIn K (.ref c_CalledOff) "sort_name" = some none)
    (on_CalledOff_came : PySem.W.findIn K (.ref c_CalledOff) "came" = some none)
    (on_CalledOff_span : PySem.W.findIn K (.ref c_CalledOff) "span" = some none)
    (on_CalledOff_tries : PySem.W.findIn K (.ref c_CalledOff) "tries" = some none)
    (on_CalledOff_spent : PySem.W.findIn K (.ref c_CalledOff) "spent" = some none)
    (om_CalledOff_is_open : PySem.W.findIn K (.ref c_CalledOff) "is_open" = some (some (.ref fm_Piece_is_open)))
    (om_CalledOff_work_left : PySem.W.findIn K (.ref c_CalledOff) "work_left" = some (some (.ref fm_Piece_work_left)))
    (oa_Missed : PySem.W.nsIn K mainGlobals "Missed" = some (some (.ref c_Missed)))
    (o1_Missed : PySem.W.plainGet K c_Missed Str.empty = true)
    (o2_Missed : PySem.W.hasDictIn K c_Missed = true)
    (o3_Missed : PySem.W.plainOver K c_Missed = true)
    (o4_Missed : PySem.W.findIn K (.ref c_Missed) "__setattr__" = some (some (.builtin "object.__setattr__")))
    (o5_Missed : PySem.W.findIn K (.ref c_Missed) "__class__" = some (some (.builtin "object.__class__")))
    (o6_Missed : PySem.W.mroIn K c_Missed (.type "object") = some true)
    (o7_Missed : PySem.W.makesIn K c_Missed = true)
    (o8_Missed : PySem.W.keepIn K (.ref c_Missed) = true)
    (oi_Missed : PySem.W.findIn K (.ref c_Missed) "__init__" = some (some (.ref fm_Piece___init__)))
    (on_Missed_number : PySem.W.findIn K (.ref c_Missed) "number" = some none)
    (on_Missed_sort_name : PySem.W.findIn K (.ref c_Missed) "sort_name" = some none)
    (on_Missed_came : PySem.W.findIn K (.ref c_Missed) "came" = some none)
    (on_Missed_span : PySem.W.findIn K (.ref c_Missed) "span" = some none)
    (on_Missed_tries : PySem.W.findIn K (.ref c_Missed) "tries" = some none)
    (on_Missed_spent : PySem.W.findIn K (.ref c_Missed) "spent" = some none)
    (om_Missed_is_open : PySem.W.findIn K (.ref c_Missed) "is_open" = some (some (.ref fm_Piece_is_open)))
    (om_Missed_work_left : PySem.W.findIn K (.ref c_Missed) "work_left" = some (some (.ref fm_Piece_work_left)))
    (oa_Sort : PySem.W.nsIn K mainGlobals "Sort" = some (some (.ref c_Sort)))
    (o1_Sort : PySem.W.plainGet K c_Sort Str.empty = true)
    (o2_Sort : PySem.W.hasDictIn K c_Sort = true)
    (o3_Sort : PySem.W.plainOver K c_Sort = true)
    (o4_Sort : PySem.W.findIn K (.ref c_Sort) "__setattr__" = some (some (.builtin "object.__setattr__")))
    (o5_Sort : PySem.W.findIn K (.ref c_Sort) "__class__" = some (some (.builtin "object.__class__")))
    (o6_Sort : PySem.W.mroIn K c_Sort (.type "object") = some true)
    (o7_Sort : PySem.W.makesIn K c_Sort = true)
    (o8_Sort : PySem.W.keepIn K (.ref c_Sort) = true)
    (oi_Sort : PySem.W.findIn K (.ref c_Sort) "__init__" = some (some (.ref fm_Sort___init__)))
    (on_Sort_name : PySem.W.findIn K (.ref c_Sort) "name" = some none)
    (on_Sort_weight : PySem.W.findIn K (.ref c_Sort) "weight" = some none)
    (on_Sort_speed : PySem.W.findIn K (.ref c_Sort) "speed" = some none)
    (on_Sort_span : PySem.W.findIn K (.ref c_Sort) "span" = some none)
    (on_Sort_tries : PySem.W.findIn K (.ref c_Sort) "tries" = some none)
    (om_Sort_as_row : PySem.W.findIn K (.ref c_Sort) "as_row" = some (some (.ref fm_Sort_as_row)))
    (oa_Sorts : PySem.W.nsIn K mainGlobals "Sorts" = some (some (.ref c_Sorts)))
    (o1_Sorts : PySem.W.plainGet K c_Sorts Str.empty = true)
    (o2_Sorts : PySem.W.hasDictIn K c_Sorts = true)
    (o3_Sorts : PySem.W.plainOver K c_Sorts = true)
    (o4_Sorts : PySem.W.findIn K (.ref c_Sorts) "__setattr__" = some (some (.builtin "object.__setattr__")))
    (o5_Sorts : PySem.W.findIn K (.ref c_Sorts) "__class__" = some (some (.builtin "object.__class__")))
    (o6_Sorts : PySem.W.mroIn K c_Sorts (.type "object") = some true)
    (o7_Sorts : PySem.W.makesIn K c_Sorts = true)
    (o8_Sorts : PySem.W.keepIn K (.ref c_Sorts) = true)
    (oi_Sorts : PySem.W.findIn K (.ref c_Sorts) "__init__" = some (some (.ref fm_Sorts___init__)))
    (on_Sorts_rows : PySem.W.findIn K (.ref c_Sorts) "rows" = some none)
    (om_Sorts_sort_of : PySem.W.findIn K (.ref c_Sorts) "sort_of" = some (some (.ref fm_Sorts_sort_of)))
    (om_Sorts_with_speed : PySem.W.findIn K (.ref c_Sorts) "with_speed" = some (some (.ref fm_Sorts_with_speed)))
    (ml_Piece___init__ : K.lookup fm_Piece___init__ = some ⟨moc_Piece___init__, mod_Piece___init__, .func (PySem.W.fnOf "__init__" "Piece.__init__" (defArgs s_Piece___init__) (defBody s_Piece___init__) (defScope s_Piece___init__) (.ref mdt_Piece___init__) mkV_Piece___init__ mdc_Piece___init__ mpm_Piece___init__ man_Piece___init__ mcd_Piece___init__ mct_Piece___init__), msl_Piece___init__⟩)
    (mc_Piece___init__ : PySem.W.codeIn K mcd_Piece___init__ "Piece.__init__" = true)
    (mk_Piece___init__ : PySem.W.keepIn K (.ref fm_Piece___init__) = true)
    (mi_Piece___init__ : PySem.W.isFn K (.ref fm_Piece___init__) = true)
    (mt_Piece___init__ : K.lookup mdt_Piece___init__ = some mto_Piece___init__)
    (mu_Piece___init__ : mto_Piece___init__.data = .seq #[.int 0 mtk_Piece___init__] mtn_Piece___init__)
    (ml_Held_is_open : K.lookup fm_Held_is_open = some ⟨moc_Held_is_open, mod_Held_is_open, .func (PySem.W.fnOf "is_open" "Held.is_open" (defArgs s_Held_is_open) (defBody s_Held_is_open) (defScope s_Held_is_open) .none mkV_Held_is_open mdc_Held_is_open mpm_Held_is_open man_Held_is_open mcd_Held_is_open mct_Held_is_open), msl_Held_is_open⟩)
    (mc_Held_is_open : PySem.W.codeIn K mcd_Held_is_open "Held.is_open" = true)
    (mk_Held_is_open : PySem.W.keepIn K (.ref fm_Held_is_open) = true)
    (mi_Held_is_open : PySem.W.isFn K (.ref fm_Held_is_open) = true)
    (ml_Piece_work_left : K.lookup fm_Piece_work_left = some ⟨moc_Piece_work_left, mod_Piece_work_left, .func (PySem.W.fnOf "work_left" "Piece.work_left" (defArgs s_Piece_work_left) (defBody s_Piece_work_left) (defScope s_Piece_work_left) .none mkV_Piece_work_left mdc_Piece_work_left mpm_Piece_work_left man_Piece_work_left mcd_Piece_work_left mct_Piece_work_left), msl_Piece_work_left⟩)
    (mc_Piece_work_left : PySem.W.codeIn K mcd_Piece_work_left "Piece.work_left" = true)
    (mk_Piece_work_left : PySem.W.keepIn K (.ref fm_Piece_work_left) = true)
    (mi_Piece_work_left : PySem.W.isFn K (.ref fm_Piece_work_left) = true)
    (ml_Waiting_is_open : K.lookup fm_Waiting_is_open = some ⟨moc_Waiting_is_open, mod_Waiting_is_open, .func (PySem.W.fnOf "is_open" "Waiting.is_open" (defArgs s_Waiting_is_open) (defBody s_Waiting_is_open) (defScope s_Waiting_is_open) .none mkV_Waiting_is_open mdc_Waiting_is_open mpm_Waiting_is_open man_Waiting_is_open mcd_Waiting_is_open mct_Waiting_is_open), msl_Waiting_is_open⟩)
    (mc_Waiting_is_open : PySem.W.codeIn K mcd_Waiting_is_open "Waiting.is_open" = true)
    (mk_Waiting_is_open : PySem.W.keepIn K (.ref fm_Waiting_is_open) = true)
    (mi_Waiting_is_open : PySem.W.isFn K (.ref fm_Waiting_is_open) = true)
    (ml_Piece_is_open : K.lookup fm_Piece_is_open = some ⟨moc_Piece_is_open, mod_Piece_is_open, .func (PySem.W.fnOf "is_open" "Piece.is_open" (defArgs s_Piece_is_open) (defBody s_Piece_is_open) (defScope s_Piece_is_open) .none mkV_Piece_is_open mdc_Piece_is_open mpm_Piece_is_open man_Piece_is_open mcd_Piece_is_open mct_Piece_is_open), msl_Piece_is_open⟩)
    (mc_Piece_is_open : PySem.W.codeIn K mcd_Piece_is_open "Piece.is_open" = true)
    (mk_Piece_is_open : PySem.W.keepIn K (.ref fm_Piece_is_open) = true)
    (mi_Piece_is_open : PySem.W.isFn K (.ref fm_Piece_is_open) = true)
    (ml_Sort___init__ : K.lookup fm_Sort___init__ = some ⟨moc_Sort___init__, mod_Sort___init__, .func (PySem.W.fnOf "__init__" "Sort.__init__" (defArgs s_Sort___init__) (defBody s_Sort___init__) (defScope s_Sort___init__) .none mkV_Sort___init__ mdc_Sort___init__ mpm_Sort___init__ man_Sort___init__ mcd_Sort___init__ mct_Sort___init__), msl_Sort___init__⟩)
    (mc_Sort___init__ : PySem.W.codeIn K mcd_Sort___init__ "Sort.__init__" = true)
    (mk_Sort___init__ : PySem.W.keepIn K (.ref fm_Sort___init__) = true)
    (mi_Sort___init__ : PySem.W.isFn K (.ref fm_Sort___init__) = true)
    (ml_Sort_as_row : K.lookup fm_Sort_as_row = some ⟨moc_Sort_as_row, mod_Sort_as_row, .func (PySem.W.fnOf "as_row" "Sort.as_row" (defArgs s_Sort_as_row) (defBody s_Sort_as_row) (defScope s_Sort_as_row) .none mkV_Sort_as_row mdc_Sort_as_row mpm_Sort_as_row man_Sort_as_row mcd_Sort_as_row mct_Sort_as_row), msl_Sort_as_row⟩)
    (mc_Sort_as_row : PySem.W.codeIn K mcd_Sort_as_row "Sort.as_row" = true)
    (mk_Sort_as_row : PySem.W.keepIn K (.ref fm_Sort_as_row) = true)
    (mi_Sort_as_row : PySem.W.isFn K (.ref fm_Sort_as_row) = true)
    (ml_Sorts___init__ : K.lookup fm_Sorts___init__ = some ⟨moc_Sorts___init__, mod_Sorts___init__, .func (PySem.W.fnOf "__init__" "Sorts.__init__" (defArgs s_Sorts___init__) (defBody s_Sorts___init__) (defScope s_Sorts___init__) .none mkV_Sorts___init__ mdc_Sorts___init__ mpm_Sorts___init__ man_Sorts___init__ mcd_Sorts___init__ mct_Sorts___init__), msl_Sorts___init__⟩)
    (mc_Sorts___init__ : PySem.W.codeIn K mcd_Sorts___init__ "Sorts.__init__" = true)
    (mk_Sorts___init__ : PySem.W.keepIn K (.ref fm_Sorts___init__) = true)
    (mi_Sorts___init__ : PySem.W.isFn K (.ref fm_Sorts___init__) = true)
    (ml_Sorts_sort_of : K.lookup fm_Sorts_sort_of = some ⟨moc_Sorts_sort_of, mod_Sorts_sort_of, .func (PySem.W.fnOf "sort_of" "Sorts.sort_of" (defArgs s_Sorts_sort_of) (defBody s_Sorts_sort_of) (defScope s_Sorts_sort_of) .none mkV_Sorts_sort_of mdc_Sorts_sort_of mpm_Sorts_sort_of man_Sorts_sort_of mcd_Sorts_sort_of mct_Sorts_sort_of), msl_Sorts_sort_of⟩)
    (mc_Sorts_sort_of : PySem.W.codeIn K mcd_Sorts_sort_of "Sorts.sort_of" = true)
    (mk_Sorts_sort_of : PySem.W.keepIn K (.ref fm_Sorts_sort_of) = true)
    (mi_Sorts_sort_of : PySem.W.isFn K (.ref fm_Sorts_sort_of) = true)
    (ml_Sorts_with_speed : K.lookup fm_Sorts_with_speed = some ⟨moc_Sorts_with_speed, mod_Sorts_with_speed, .func (PySem.W.fnOf "with_speed" "Sorts.with_speed" (defArgs s_Sorts_with_speed) (defBody s_Sorts_with_speed) (defScope s_Sorts_with_speed) .none mkV_Sorts_with_speed mdc_Sorts_with_speed mpm_Sorts_with_speed man_Sorts_with_speed mcd_Sorts_with_speed mct_Sorts_with_speed), msl_Sorts_with_speed⟩)
    (mc_Sorts_with_speed : PySem.W.codeIn K mcd_Sorts_with_speed "Sorts.with_speed" = true)
    (mk_Sorts_with_speed : PySem.W.keepIn K (.ref fm_Sorts_with_speed) = true)
    (mi_Sorts_with_speed : PySem.W.isFn K (.ref fm_Sorts_with_speed) = true)
    (q_int_int : PySem.W.kitOne K (.type "int") (.type "int") = some true)
    (q_int_bool : PySem.W.kitOne K (.type "int") (.type "bool") = some false)
    (q_bool_bool : PySem.W.kitOne K (.type "bool") (.type "bool") = some true)
    (q_str_str : PySem.W.kitOne K (.type "str") (.type "str") = some true)
    (q_tuple_tuple : PySem.W.kitOne K (.type "tuple") (.type "tuple") = some true)
    (q_list_list : PySem.W.kitOne K (.type "list") (.type "list") = some true)
    : ∃ fd : FuncData, (∀ (s : Shared) (v : Value), BindsTo s fd ⟨[v], []⟩ [("_law_script", v)]) ∧ ∀ base : Heap, K.In base → base.Ns mainGlobals mg → FnOk l.prog w K mg base CX0 12 fa fd ["_law_script"] (spLaw K) := by
  have e := hfa.symm.trans (PySem.W.mg_of X G a20)
  cases e
  have xx_WaitError : XCls K c_WaitError := ⟨⟨none, z2_WaitError⟩, x1_WaitError, x2_WaitError, x3_WaitError, x4_WaitError, x5_WaitError, xcg, xct, x6_WaitError⟩
  have xx_NoWeight : XCls K c_NoWeight := ⟨⟨none, z2_NoWeight⟩, x1_NoWeight, x2_NoWeight, x3_NoWeight, x4_NoWeight, x5_NoWeight, xcg, xct, x6_NoWeight⟩
  have xx_NoSorts : XCls K c_NoSorts := ⟨⟨none, z2_NoSorts⟩, x1_NoSorts, x2_NoSorts, x3_NoSorts, x4_NoSorts, x5_NoSorts, xcg, xct, x6_NoSorts⟩
  have xx_NoSort : XCls K c_NoSort := ⟨⟨some fi_NoSort, z2_NoSort⟩, x1_NoSort, x2_NoSort, x3_NoSort, x4_NoSort, x5_NoSort, xcg, xct, x6_NoSort⟩
  have xx_Over : XCls K c_Over := ⟨⟨some fi_Over, z2_Over⟩, x1_Over, x2_Over, x3_Over, x4_Over, x5_Over, xcg, xct, x6_Over⟩
  have T : Txt K mg c_WaitError c_NoWeight c_NoSorts c_NoSort c_Over c_Piece c_Held c_Waiting c_Done c_GivenUp c_CalledOff c_Missed c_Sort c_Sorts := ⟨znd, PySem.W.mg_of X G xa_WaitError, ⟨⟨_, xd_WaitError, z1_WaitError⟩, xt_WaitError⟩, xx_WaitError, PySem.W.mg_of X G xa_NoWeight, ⟨⟨_, xd_NoWeight, z1_NoWeight⟩, xt_NoWeight⟩, xx_NoWeight, PySem.W.mg_of X G xa_NoSorts, ⟨⟨_, xd_NoSorts, z1_NoSorts⟩, xt_NoSorts⟩, xx_NoSorts, PySem.W.mg_of X G xa_NoSort, ⟨⟨_, xd_NoSort, z1_NoSort⟩, xt_NoSort⟩, xx_NoSort, y6_NoSort, PySem.W.mg_of X G xa_Over, ⟨⟨_, xd_Over, z1_Over⟩, xt_Over⟩, xx_Over, y6_Over, PySem.W.mg_none_of X G z_abs, PySem.W.mg_none_of X G z_all, PySem.W.mg_none_of X G z_bool, PySem.W.mg_none_of X G z_int, PySem.W.mg_none_of X G z_isinstance, PySem.W.mg_none_of X G z_len, PySem.W.mg_none_of X G z_list, PySem.W.mg_none_of X G z_range, PySem.W.mg_none_of X G z_set, PySem.W.mg_none_of X G z_str, PySem.W.mg_none_of X G z_tuple, ⟨_, PySem.W.mg_of X G g_LONGEST_NAME⟩, ⟨_, PySem.W.mg_of X G g_MOST_TOP⟩, ⟨_, PySem.W.mg_of X G g_MOST_BOTTOM⟩, ⟨_, PySem.W.mg_of X G g_MOST_SORTS⟩, ⟨_, PySem.W.mg_of X G g_MOST_SPAN⟩, ⟨_, PySem.W.mg_of X G g_MOST_TRIES⟩, PySem.W.mg_of X G oa_Piece, ⟨⟨o1_Piece, o2_Piece, o3_Piece, o4_Piece⟩, o5_Piece, xcg, xct, o6_Piece⟩, PySem.W.mg_of X G oa_Held, ⟨⟨o1_Held, o2_Held, o3_Held, o4_Held⟩, o5_Held, xcg, xct, o6_Held⟩, on_Held_number, on_Held_sort_name, on_Held_came, on_Held_span, on_Held_tries, on_Held_spent, PySem.W.mg_of X G oa_Waiting, ⟨⟨o1_Waiting, o2_Waiting, o3_Waiting, o4_Waiting⟩, o5_Waiting, xcg, xct, o6_Waiting⟩, on_Waiting_number, on_Waiting_sort_name, on_Waiting_came, on_Waiting_span, on_Waiting_tries, on_Waiting_spent, PySem.W.mg_of X G oa_Done, ⟨⟨o1_Done, o2_Done, o3_Done, o4_Done⟩, o5_Done, xcg, xct, o6_Done⟩, on_Done_number, on_Done_sort_name, on_Done_came, on_Done_span, on_Done_tries, on_Done_spent, PySem.W.mg_of X G oa_GivenUp, ⟨⟨o1_GivenUp, o2_GivenUp, o3_GivenUp, o4_GivenUp⟩, o5_GivenUp, xcg, xct, o6_GivenUp⟩, on_GivenUp_number, on_GivenUp_sort_name, on_GivenUp_came, on_GivenUp_span, on_GivenUp_tries, on_GivenUp_spent, PySem.W.mg_of X G oa_CalledOff, ⟨⟨o1_CalledOff, o2_CalledOff, o3_CalledOff, o4_CalledOff⟩, o5_CalledOff, xcg, xct, o6_CalledOff⟩, on_CalledOff_number, on_CalledOff_sort_name, on_CalledOff_came, on_CalledOff_span, on_CalledOff_tries, on_CalledOff_spent, PySem.W.mg_of X G oa_Missed, ⟨⟨o1_Missed, o2_Missed, o3_Missed, o4_Missed⟩, o5_Missed, xcg, xct, o6_Missed⟩, on_Missed_number, on_Missed_sort_name, on_Missed_came, on_Missed_span, on_Missed_tries, on_Missed_spent, PySem.W.mg_of X G oa_Sort, ⟨⟨o1_Sort, o2_Sort, o3_Sort, o4_Sort⟩, o5_Sort, xcg, xct, o6_Sort⟩, on_Sort_name, on_Sort_weight, on_Sort_speed, on_Sort_span, on_Sort_tries, PySem.W.mg_of X G oa_Sorts, ⟨⟨o1_Sorts, o2_Sorts, o3_Sorts, o4_Sorts⟩, o5_Sorts, xcg, xct, o6_Sorts⟩, on_Sorts_rows, q_int_int, q_int_bool, q_bool_bool, q_str_str, q_tuple_tuple, q_list_list⟩
  have F0 := fun_mk (st := s_claim_of) l0 c0 k0
  have b0 := F0.binds (ps := ["piece", "sorts"]) fun _ _ _ _ _ _ us hl => by obtain ⟨_, _, rfl⟩ := ul2 hl; rfl
  have D_claim_of : Dfn K mg "claim_of" s_claim_of ["piece", "sorts"] _ _ := ⟨F0, b0, PySem.W.mg_of X G a0⟩
  have F1 := fun_mk (st := s_chore_of) l1 c1 k1
  have b1 := F1.binds (ps := ["piece", "sorts"]) fun _ _ _ _ _ _ us hl => by obtain ⟨_, _, rfl⟩ := ul2 hl; rfl
  have D_chore_of : Dfn K mg "chore_of" s_chore_of ["piece", "sorts"] _ _ := ⟨F1, b1, PySem.W.mg_of X G a1⟩
  have F2 := fun_mk (st := s_is_whole) l2 c2 k2
  have b2 := F2.binds (ps := ["thing", "low", "high"]) fun _ _ _ _ _ _ us hl => by obtain ⟨_, _, _, rfl⟩ := ul3 hl; rfl
  have D_is_whole : Dfn K mg "is_whole" s_is_whole ["thing", "low", "high"] _ _ := ⟨F2, b2, PySem.W.mg_of X G a2⟩
  have F3 := fun_mk (st := s_all_between) l3 c3 k3
  have b3 := F3.binds (ps := ["text", "first", "last"]) fun _ _ _ _ _ _ us hl => by obtain ⟨_, _, _, rfl⟩ := ul3 hl; rfl
  have D_all_between : Dfn K mg "all_between" s_all_between ["text", "first", "last"] _ _ := ⟨F3, b3, PySem.W.mg_of X G a3⟩
  have F4 := fun_mk (st := s_is_name) l4 c4 k4
  have b4 := F4.binds (ps := ["thing"]) fun _ _ _ _ _ _ us hl => by obtain ⟨_, rfl⟩ := ul1 hl; rfl
  have D_is_name : Dfn K mg "is_name" s_is_name ["thing"] _ _ := ⟨F4, b4, PySem.W.mg_of X G a4⟩
  have F5 := fun_mk (st := s_common_divisor) l5 c5 k5
  have b5 := F5.binds (ps := ["one", "other"]) fun _ _ _ _ _ _ us hl => by obtain ⟨_, _, rfl⟩ := ul2 hl; rfl
  have D_common_divisor : Dfn K mg "common_divisor" s_common_divisor ["one", "other"] _ _ := ⟨F5, b5, PySem.W.mg_of X G a5⟩
  have F6 := fun_mk (st := s_lowest) l6 c6 k6
  have b6 := F6.binds (ps := ["top", "bottom"]) fun _ _ _ _ _ _ us hl => by obtain ⟨_, _, rfl⟩ := ul2 hl; rfl
  have D_lowest : Dfn K mg "lowest" s_lowest ["top", "bottom"] _ _ := ⟨F6, b6, PySem.W.mg_of X G a6⟩
  have F7 := fun_mk (st := s_is_weight) l7 c7 k7
  have b7 := F7.binds (ps := ["thing"]) fun _ _ _ _ _ _ us hl => by obtain ⟨_, rfl⟩ := ul1 hl; rfl
  have D_is_weight : Dfn K mg "is_weight" s_is_weight ["thing"] _ _ := ⟨F7, b7, PySem.W.mg_of X G a7⟩
  have F8 := fun_mk (st := s_is_row) l8 c8 k8
  have b8 := F8.binds (ps := ["thing"]) fun _ _ _ _ _ _ us hl => by obtain ⟨_, rfl⟩ := ul1 hl; rfl
  have D_is_row : Dfn K mg "is_row" s_is_row ["thing"] _ _ := ⟨F8, b8, PySem.W.mg_of X G a8⟩
  have F9 := fun_mk (st := s_are_rows) l9 c9 k9
  have b9 := F9.binds (ps := ["thing"]) fun _ _ _ _ _ _ us hl => by obtain ⟨_, rfl⟩ := ul1 hl; rfl
  have D_are_rows : Dfn K mg "are_rows" s_are_rows ["thing"] _ _ := ⟨F9, b9, PySem.W.mg_of X G a9⟩
  have F10 := fun_mk (st := s_in_lowest) l10 c10 k10
  have b10 := F10.binds (ps := ["weight"]) fun _ _ _ _ _ _ us hl => by obtain ⟨_, rfl⟩ := ul1 hl; rfl
  have D_in_lowest : Dfn K mg "in_lowest" s_in_lowest ["weight"] _ _ := ⟨F10, b10, PySem.W.mg_of X G a10⟩
  have F11 := fun_mk (st := s_sort_from) l11 c11 k11
  have b11 := F11.binds (ps := ["row"]) fun _ _ _ _ _ _ us hl => by obtain ⟨_, rfl⟩ := ul1 hl; rfl
  have D_sort_from : Dfn K mg "sort_from" s_sort_from ["row"] _ _ := ⟨F11, b11, PySem.W.mg_of X G a11⟩
  have F12 := fun_mk (st := s_law_cell) l12 c12 k12
  have b12 := F12.binds (ps := ["_law_script", "_law_k"]) fun _ _ _ _ _ _ us hl => by obtain ⟨_, _, rfl⟩ := ul2 hl; rfl
  have D_law_cell : Dfn K mg "_law_cell" s_law_cell ["_law_script", "_law_k"] _ _ := ⟨F12, b12, PySem.W.mg_of X G a12⟩
  have F13 := fun_mk (st := s_law_mix) l13 c13 k13
  have b13 := F13.binds (ps := ["_law_cell_here", "_law_k"]) fun _ _ _ _ _ _ us hl => by obtain ⟨_, _, rfl⟩ := ul2 hl; rfl
  have D_law_mix : Dfn K mg "_law_mix" s_law_mix ["_law_cell_here", "_law_k"] _ _ := ⟨F13, b13, PySem.W.mg_of X G a13⟩
  have F14 := fun_mk (st := s_law_draw) l14 c14 k14
  have b14 := F14.binds (ps := ["_law_cell_here", "_law_k"]) fun _ _ _ _ _ _ us hl => by obtain ⟨_, _, rfl⟩ := ul2 hl; rfl
  have D_law_draw : Dfn K mg "_law_draw" s_law_draw ["_law_cell_here", "_law_k"] _ _ := ⟨F14, b14, PySem.W.mg_of X G a14⟩
  have F15 := fun_mk (st := s_law_lowest) l15 c15 k15
  have b15 := F15.binds (ps := ["_law_weight"]) fun _ _ _ _ _ _ us hl => by obtain ⟨_, rfl⟩ := ul1 hl; rfl
  have D_law_lowest : Dfn K mg "_law_lowest" s_law_lowest ["_law_weight"] _ _ := ⟨F15, b15, PySem.W.mg_of X G a15⟩
  have F16 := fun_mk (st := s_law_rows) l16 c16 k16
  have b16 := F16.binds (ps := ["_law_script"]) fun _ _ _ _ _ _ us hl => by obtain ⟨_, rfl⟩ := ul1 hl; rfl
  have D_law_rows : Dfn K mg "_law_rows" s_law_rows ["_law_script"] _ _ := ⟨F16, b16, PySem.W.mg_of X G a16⟩
  have F17 := fun_mk (st := s_law_piece) l17 c17 k17
  have b17 := F17.binds (ps := ["_law_numbers", "_law_name"]) fun _ _ _ _ _ _ us hl => by obtain ⟨_, _, rfl⟩ := ul2 hl; rfl
  have D_law_piece : Dfn K mg "_law_piece" s_law_piece ["_law_numbers", "_law_name"] _ _ := ⟨F17, b17, PySem.W.mg_of X G a17⟩
  have F18 := fun_mk (st := s_law_told) l18 c18 k18
  have b18 := F18.binds (ps := ["_law_way", "_law_piece_here", "_law_sorts"]) fun _ _ _ _ _ _ us hl => by obtain ⟨_, _, _, rfl⟩ := ul3 hl; rfl
  have D_law_told : Dfn K mg "_law_told" s_law_told ["_law_way", "_law_piece_here", "_law_sorts"] _ _ := ⟨F18, b18, PySem.W.mg_of X G a18⟩
  have F19 := fun_mk (st := s_law_right) l19 c19 k19
  have b19 := F19.binds (ps := ["_law_piece_here", "_law_left", "_law_sorts", "_law_rows_here"]) fun _ _ _ _ _ _ us hl => by obtain ⟨_, _, _, _, rfl⟩ := ul4 hl; rfl
  have D_law_right : Dfn K mg "_law_right" s_law_right ["_law_piece_here", "_law_left", "_law_sorts", "_law_rows_here"] _ _ := ⟨F19, b19, PySem.W.mg_of X G a19⟩
  have F20 := fun_mk (st := s_law) l20 c20 k20
  have b20 := F20.binds (ps := ["_law_script"]) fun _ _ _ _ _ _ us hl => by obtain ⟨_, rfl⟩ := ul1 hl; rfl
  have D_law : Dfn K mg "law" s_law ["_law_script"] _ _ := ⟨F20, b20, PySem.W.mg_of X G a20⟩
  refine ⟨PySem.W.fnOf "law" "law" (defArgs s_law) (defBody s_law) (defScope s_law) .none kV20 dc20 pm20 an20 cd20 ct20, fun s v => .of_eq rfl, fun base _ _ => ?_⟩
  have X_WaitError : XCal0 K mg "WaitError" c_WaitError := ⟨⟨xx_WaitError, z2_WaitError, x7_WaitError, fun f e => by cases e⟩, PySem.W.mg_of X G xa_WaitError⟩
  have X_NoWeight : XCal0 K mg "NoWeight" c_NoWeight := ⟨⟨xx_NoWeight, z2_NoWeight, x7_NoWeight, fun f e => by cases e⟩, PySem.W.mg_of X G xa_NoWeight⟩
  have X_NoSorts : XCal0 K mg "NoSorts" c_NoSorts := ⟨⟨xx_NoSorts, z2_NoSorts, x7_NoSorts, fun f e => by cases e⟩, PySem.W.mg_of X G xa_NoSorts⟩
  have X_NoSort : XCal l.prog w K mg base "NoSort" c_NoSort "name" := ⟨⟨fi_NoSort, _, ["self", "name"], ⟨xx_NoSort, z2_NoSort, x7_NoSort, fun f e => by cases e; exact y5_NoSort⟩, y6_NoSort, xinit_ok (fun_mk (st := si_NoSort) y2_NoSort y3_NoSort y4_NoSort) sci_NoSort rfl rfl rfl rfl rfl (fun _ => rfl), (fun_mk (st := si_NoSort) y2_NoSort y3_NoSort y4_NoSort).binds (ps := ["self", "name"]) fun _ _ _ _ _ _ us hl => by obtain ⟨_, _, rfl⟩ := ul2 hl; rfl, PySem.W.mg_of X G xa_NoSort⟩⟩
  have X_Over : XCal l.prog w K mg base "Over" c_Over "number" := ⟨⟨fi_Over, _, ["self", "number"], ⟨xx_Over, z2_Over, x7_Over, fun f e => by cases e; exact y5_Over⟩, y6_Over, xinit_ok (fun_mk (st := si_Over) y2_Over y3_Over y4_Over) sci_Over rfl rfl rfl rfl rfl (fun _ => rfl), (fun_mk (st := si_Over) y2_Over y3_Over y4_Over).binds (ps := ["self", "number"]) fun _ _ _ _ _ _ us hl => by obtain ⟨_, _, rfl⟩ := ul2 hl; rfl, PySem.W.mg_of X G xa_Over⟩⟩
  have mF_Piece___init__ := funE_mk (st := s_Piece___init__) ml_Piece___init__ mc_Piece___init__ mk_Piece___init__ mt_Piece___init__ mu_Piece___init__
  have mb_Piece___init__ := mF_Piece___init__.binds (ps := ["self", "number", "sort_name", "came", "span", "tries", "spent"]) fun _ _ _ _ _ _ _ us hl => by obtain ⟨_, _, _, _, _, _, _, rfl⟩ := ul7 hl; exact ⟨_, rfl, rfl⟩
  have md_Piece___init__ := mF_Piece___init__.bindsD (ps := ["self", "number", "sort_name", "came", "span", "tries", "spent"]) fun _ _ _ _ _ _ _ us hl => by obtain ⟨_, _, _, _, _, _, rfl⟩ := ul6 (show us.length = 6 by rw [List.length_append] at hl; exact Nat.succ.inj hl); exact ⟨_, rfl, rfl⟩
  have mD_Piece___init__ : MfnE K "__init__" "Piece.__init__" s_Piece___init__ ["self", "number", "sort_name", "came", "span", "tries", "spent"] _ _ _ := ⟨mF_Piece___init__, mb_Piece___init__, md_Piece___init__⟩
  have mF_Held_is_open := fun_mk (st := s_Held_is_open) ml_Held_is_open mc_Held_is_open mk_Held_is_open
  have mb_Held_is_open := mF_Held_is_open.binds (ps := ["self"]) fun _ _ _ _ _ _ us hl => by obtain ⟨_, rfl⟩ := ul1 hl; rfl
  have mD_Held_is_open : Mfn K "is_open" "Held.is_open" s_Held_is_open ["self"] _ _ := ⟨mF_Held_is_open, mb_Held_is_open⟩
  have mF_Piece_work_left := fun_mk (st := s_Piece_work_left) ml_Piece_work_left mc_Piece_work_left mk_Piece_work_left
  have mb_Piece_work_left := mF_Piece_work_left.binds (ps := ["self"]) fun _ _ _ _ _ _ us hl => by obtain ⟨_, rfl⟩ := ul1 hl; rfl
  have mD_Piece_work_left : Mfn K "work_left" "Piece.work_left" s_Piece_work_left ["self"] _ _ := ⟨mF_Piece_work_left, mb_Piece_work_left⟩
  have mF_Waiting_is_open := fun_mk (st := s_Waiting_is_open) ml_Waiting_is_open mc_Waiting_is_open mk_Waiting_is_open
  have mb_Waiting_is_open := mF_Waiting_is_open.binds (ps := ["self"]) fun _ _ _ _ _ _ us hl => by obtain ⟨_, rfl⟩ := ul1 hl; rfl
  have mD_Waiting_is_open : Mfn K "is_open" "Waiting.is_open" s_Waiting_is_open ["self"] _ _ := ⟨mF_Waiting_is_open, mb_Waiting_is_open⟩
  have mF_Piece_is_open := fun_mk (st := s_Piece_is_open) ml_Piece_is_open mc_Piece_is_open mk_Piece_is_open
  have mb_Piece_is_open := mF_Piece_is_open.binds (ps := ["self"]) fun _ _ _ _ _ _ us hl => by obtain ⟨_, rfl⟩ := ul1 hl; rfl
  have mD_Piece_is_open : Mfn K "is_open" "Piece.is_open" s_Piece_is_open ["self"] _ _ := ⟨mF_Piece_is_open, mb_Piece_is_open⟩
  have mF_Sort___init__ := fun_mk (st := s_Sort___init__) ml_Sort___init__ mc_Sort___init__ mk_Sort___init__
  have mb_Sort___init__ := mF_Sort___init__.binds (ps := ["self", "name", "weight", "speed", "span", "tries"]) fun _ _ _ _ _ _ us hl => by obtain ⟨_, _, _, _, _, _, rfl⟩ := ul6 hl; rfl
  have mD_Sort___init__ : Mfn K "__init__" "Sort.__init__" s_Sort___init__ ["self", "name", "weight", "speed", "span", "tries"] _ _ := ⟨mF_Sort___init__, mb_Sort___init__⟩
  have mF_Sort_as_row := fun_mk (st := s_Sort_as_row) ml_Sort_as_row mc_Sort_as_row mk_Sort_as_row
  have mb_Sort_as_row := mF_Sort_as_row.binds (ps := ["self"]) fun _ _ _ _ _ _ us hl => by obtain ⟨_, rfl⟩ := ul1 hl; rfl
  have mD_Sort_as_row : Mfn K "as_row" "Sort.as_row" s_Sort_as_row ["self"] _ _ := ⟨mF_Sort_as_row, mb_Sort_as_row⟩
  have mF_Sorts___init__ := fun_mk (st := s_Sorts___init__) ml_Sorts___init__ mc_Sorts___init__ mk_Sorts___init__
  have mb_Sorts___init__ := mF_Sorts___init__.binds (ps := ["self", "rows"]) fun _ _ _ _ _ _ us hl => by obtain ⟨_, _, rfl⟩ := ul2 hl; rfl
  have mD_Sorts___init__ : Mfn K "__init__" "Sorts.__init__" s_Sorts___init__ ["self", "rows"] _ _ := ⟨mF_Sorts___init__, mb_Sorts___init__⟩
  have mF_Sorts_sort_of := fun_mk (st := s_Sorts_sort_of) ml_Sorts_sort_of mc_Sorts_sort_of mk_Sorts_sort_of
  have mb_Sorts_sort_of := mF_Sorts_sort_of.binds (ps := ["self", "name"]) fun _ _ _ _ _ _ us hl => by obtain ⟨_, _, rfl⟩ := ul2 hl; rfl
  have mD_Sorts_sort_of : Mfn K "sort_of" "Sorts.sort_of" s_Sorts_sort_of ["self", "name"] _ _ := ⟨mF_Sorts_sort_of, mb_Sorts_sort_of⟩
  have mF_Sorts_with_speed := fun_mk (st := s_Sorts_with_speed) ml_Sorts_with_speed mc_Sorts_with_speed mk_Sorts_with_speed
  have mb_Sorts_with_speed := mF_Sorts_with_speed.binds (ps := ["self", "name", "speed"]) fun _ _ _ _ _ _ us hl => by obtain ⟨_, _, _, rfl⟩ := ul3 hl; rfl
  have mD_Sorts_with_speed : Mfn K "with_speed" "Sorts.with_speed" s_Sorts_with_speed ["self", "name", "speed"] _ _ := ⟨mF_Sorts_with_speed, mb_Sorts_with_speed⟩
  have C_law_mix := ok_law_mix (P := l.prog) (w := w) (base := base) D_law_mix T
  have C_law_draw := ok_law_draw (P := l.prog) (w := w) (base := base) D_law_draw T C_law_mix
  have C_law_cell := ok_law_cell (P := l.prog) (w := w) (base := base) D_law_cell T
  have C_law_rows := ok_law_rows (P := l.prog) (w := w) (base := base) D_law_rows T C_law_cell C_law_draw
  have G_Piece___init__ := ok_Piece___init__ (P := l.prog) (w := w) (base := base) mD_Piece___init__ T
  have K_Held : Mak l.prog w K mg base "Held" c_Held 1 ["number", "sort_name", "came", "span", "tries", "spent"] (.int 0) := MfnE.mak mD_Piece___init__ G_Piece___init__ T.o_Held.cl (no6 T.n_Held_number T.n_Held_sort_name T.n_Held_came T.n_Held_span T.n_Held_tries T.n_Held_spent) ⟨o7_Held, oi_Held, mi_Piece___init__, o8_Held⟩ (PySem.W.mg_of X G oa_Held) ⟨_, rfl⟩
  have K_Waiting : Mak l.prog w K mg base "Waiting" c_Waiting 1 ["number", "sort_name", "came", "span", "tries", "spent"] (.int 0) := MfnE.mak mD_Piece___init__ G_Piece___init__ T.o_Waiting.cl (no6 T.n_Waiting_number T.n_Waiting_sort_name T.n_Waiting_came T.n_Waiting_span T.n_Waiting_tries T.n_Waiting_spent) ⟨o7_Waiting, oi_Waiting, mi_Piece___init__, o8_Waiting⟩ (PySem.W.mg_of X G oa_Waiting) ⟨_, rfl⟩
  have K_Done : Mak l.prog w K mg base "Done" c_Done 1 ["number", "sort_name", "came", "span", "tries", "spent"] (.int 0) := MfnE.mak mD_Piece___init__ G_Piece___init__ T.o_Done.cl (no6 T.n_Done_number T.n_Done_sort_name T.n_Done_came T.n_Done_span T.n_Done_tries T.n_Done_spent) ⟨o7_Done, oi_Done, mi_Piece___init__, o8_Done⟩ (PySem.W.mg_of X G oa_Done) ⟨_, rfl⟩
  have K_GivenUp : Mak l.prog w K mg base "GivenUp" c_GivenUp 1 ["number", "sort_name", "came", "span", "tries", "spent"] (.int 0) := MfnE.mak mD_Piece___init__ G_Piece___init__ T.o_GivenUp.cl (no6 T.n_GivenUp_number T.n_GivenUp_sort_name T.n_GivenUp_came T.n_GivenUp_span T.n_GivenUp_tries T.n_GivenUp_spent) ⟨o7_GivenUp, oi_GivenUp, mi_Piece___init__, o8_GivenUp⟩ (PySem.W.mg_of X G oa_GivenUp) ⟨_, rfl⟩
  have K_CalledOff : Mak l.prog w K mg base "CalledOff" c_CalledOff 1 ["number", "sort_name", "came", "span", "tries", "spent"] (.int 0) := MfnE.mak mD_Piece___init__ G_Piece___init__ T.o_CalledOff.cl (no6 T.n_CalledOff_number T.n_CalledOff_sort_name T.n_CalledOff_came T.n_CalledOff_span T.n_CalledOff_tries T.n_CalledOff_spent) ⟨o7_CalledOff, oi_CalledOff, mi_Piece___init__, o8_CalledOff⟩ (PySem.W.mg_of X G oa_CalledOff) ⟨_, rfl⟩
  have K_Missed : Mak l.prog w K mg base "Missed" c_Missed 1 ["number", "sort_name", "came", "span", "tries", "spent"] (.int 0) := MfnE.mak mD_Piece___init__ G_Piece___init__ T.o_Missed.cl (no6 T.n_Missed_number T.n_Missed_sort_name T.n_Missed_came T.n_Missed_span T.n_Missed_tries T.n_Missed_spent) ⟨o7_Missed, oi_Missed, mi_Piece___init__, o8_Missed⟩ (PySem.W.mg_of X G oa_Missed) ⟨_, rfl⟩
  have C_law_piece := ok_law_piece (P := l.prog) (w := w) (base := base) D_law_piece T K_Held K_Waiting K_Done K_GivenUp K_CalledOff K_Missed
  have C_law_lowest := ok_law_lowest (P := l.prog) (w := w) (base := base) D_law_lowest T
  have C_common_divisor := ok_common_divisor (P := l.prog) (w := w) (base := base) D_common_divisor T
  have C_lowest := ok_lowest (P := l.prog) (w := w) (base := base) D_lowest T C_common_divisor
  have C_in_lowest := ok_in_lowest (P := l.prog) (w := w) (base := base) D_in_lowest T C_lowest
  have G_Sort___init__ := ok_Sort___init__ (P := l.prog) (w := w) (base := base) mD_Sort___init__ T C_in_lowest
  have K_Sort : MakG CX0 l.prog w K mg base "Sort" c_Sort 4 (spSoMk c_Sort) := ⟨_, _, _, _, ⟨o7_Sort, oi_Sort, mi_Sort___init__, o8_Sort⟩, FnOk.mono G_Sort___init__ (by decide), mb_Sort___init__, PySem.W.mg_of X G oa_Sort, so_imp T.o_Sort.cl (no5 T.n_Sort_name T.n_Sort_weight T.n_Sort_speed T.n_Sort_span T.n_Sort_tries)⟩
  have C_sort_from := ok_sort_from (P := l.prog) (w := w) (base := base) D_sort_from T K_Sort
  have G_Sorts_sort_of := ok_Sorts_sort_of (P := l.prog) (w := w) (base := base) mD_Sorts_sort_of T C_sort_from X_NoSort
  have M_sort_of : MOk (CX1 l.prog w) l.prog w K mg base 7 c_Sorts "sort_of" (spSortOf K c_Sort c_Sorts c_NoSort) := ⟨T.o_Sorts.cl, _, _, _, ⟨om_Sorts_sort_of, mi_Sorts_sort_of, mk_Sorts_sort_of⟩, FnOk.mono G_Sorts_sort_of (by decide), mb_Sorts_sort_of⟩
  have C_claim_of := ok_claim_of (P := l.prog) (w := w) (base := base) D_claim_of T M_sort_of
  have G_Held_is_open := ok_Held_is_open (P := l.prog) (w := w) (base := base) mD_Held_is_open T
  have G_Waiting_is_open := ok_Waiting_is_open (P := l.prog) (w := w) (base := base) mD_Waiting_is_open T
  have G_Piece_is_open := ok_Piece_is_open (P := l.prog) (w := w) (base := base) mD_Piece_is_open T
  have M_is_open : ∀ d, MOk CX0 l.prog w K mg base 1 (CsA.cl (CsA.mk c_Held c_Waiting c_Done c_GivenUp c_CalledOff c_Missed) d) "is_open" (spOpen (CsA.mk c_Held c_Waiting c_Done c_GivenUp c_CalledOff c_Missed) d) := fun d => match d with
    | .held => ⟨T.o_Held.cl, _, _, _, ⟨om_Held_is_open, mi_Held_is_open, mk_Held_is_open⟩, FnOk.mono G_Held_is_open (by decide), mb_Held_is_open⟩
    | .waiting => ⟨T.o_Waiting.cl, _, _, _, ⟨om_Waiting_is_open, mi_Waiting_is_open, mk_Waiting_is_open⟩, FnOk.mono G_Waiting_is_open (by decide), mb_Waiting_is_open⟩
    | .done => ⟨T.o_Done.cl, _, _, _, ⟨om_Done_is_open, mi_Piece_is_open, mk_Piece_is_open⟩, FnOk.mono (FnOk.imp G_Piece_is_open (fun vs H Q E h => let ⟨a, p, e, hp, q⟩ := h; ⟨a, e, q⟩)) (by decide), mb_Piece_is_open⟩
    | .givenUp => ⟨T.o_GivenUp.cl, _, _, _, ⟨om_GivenUp_is_open, mi_Piece_is_open, mk_Piece_is_open⟩, FnOk.mono (FnOk.imp G_Piece_is_open (fun vs H Q E h => let ⟨a, p, e, hp, q⟩ := h; ⟨a, e, q⟩)) (by decide), mb_Piece_is_open⟩
    | .calledOff => ⟨T.o_CalledOff.cl, _, _, _, ⟨om_CalledOff_is_open, mi_Piece_is_open, mk_Piece_is_open⟩, FnOk.mono (FnOk.imp G_Piece_is_open (fun vs H Q E h => let ⟨a, p, e, hp, q⟩ := h; ⟨a, e, q⟩)) (by decide), mb_Piece_is_open⟩
    | .missed => ⟨T.o_Missed.cl, _, _, _, ⟨om_Missed_is_open, mi_Piece_is_open, mk_Piece_is_open⟩, FnOk.mono (FnOk.imp G_Piece_is_open (fun vs H Q E h => let ⟨a, p, e, hp, q⟩ := h; ⟨a, e, q⟩)) (by decide), mb_Piece_is_open⟩
  have G_Piece_work_left := ok_Piece_work_left (P := l.prog) (w := w) (base := base) mD_Piece_work_left T M_is_open
  have M_work_left : ∀ d, MOk CX0 l.prog w K mg base 2 (CsA.cl (CsA.mk c_Held c_Waiting c_Done c_GivenUp c_CalledOff c_Missed) d) "work_left" (spLeft (CsA.mk c_Held c_Waiting c_Done c_GivenUp c_CalledOff c_Missed)) := fun d => match d with
    | .held => ⟨T.o_Held.cl, _, _, _, ⟨om_Held_work_left, mi_Piece_work_left, mk_Piece_work_left⟩, FnOk.mono G_Piece_work_left (by decide), mb_Piece_work_left⟩
    | .waiting => ⟨T.o_Waiting.cl, _, _, _, ⟨om_Waiting_work_left, mi_Piece_work_left, mk_Piece_work_left⟩, FnOk.mono G_Piece_work_left (by decide), mb_Piece_work_left⟩
    | .done => ⟨T.o_Done.cl, _, _, _, ⟨om_Done_work_left, mi_Piece_work_left, mk_Piece_work_left⟩, FnOk.mono G_Piece_work_left (by decide), mb_Piece_work_left⟩
    | .givenUp => ⟨T.o_GivenUp.cl, _, _, _, ⟨om_GivenUp_work_left, mi_Piece_work_left, mk_Piece_work_left⟩, FnOk.mono G_Piece_work_left (by decide), mb_Piece_work_left⟩
    | .calledOff => ⟨T.o_CalledOff.cl, _, _, _, ⟨om_CalledOff_work_left, mi_Piece_work_left, mk_Piece_work_left⟩, FnOk.mono G_Piece_work_left (by decide), mb_Piece_work_left⟩
    | .missed => ⟨T.o_Missed.cl, _, _, _, ⟨om_Missed_work_left, mi_Piece_work_left, mk_Piece_work_left⟩, FnOk.mono G_Piece_work_left (by decide), mb_Piece_work_left⟩
  have C_chore_of := ok_chore_of (P := l.prog) (w := w) (base := base) D_chore_of T C_claim_of M_work_left
  have C_law_told := ok_law_told (P := l.prog) (w := w) (base := base) D_law_told T C_claim_of C_chore_of
  have C_law_right := ok_law_right (P := l.prog) (w := w) (base := base) D_law_right T C_law_lowest C_law_told
  have C_is_whole := ok_is_whole (P := l.prog) (w := w) (base := base) D_is_whole T
  have C_all_between := ok_all_between (P := l.prog) (w := w) (base := base) D_all_between T
  have C_is_name := ok_is_name (P := l.prog) (w := w) (base := base) D_is_name T C_all_between
  have C_is_weight := ok_is_weight (P := l.prog) (w := w) (base := base) D_is_weight T C_is_whole
  have C_is_row := ok_is_row (P := l.prog) (w := w) (base := base) D_is_row T C_is_whole C_is_name C_is_weight
  have C_are_rows := ok_are_rows (P := l.prog) (w := w) (base := base) D_are_rows T C_is_row
  have G_Sort_as_row := ok_Sort_as_row (P := l.prog) (w := w) (base := base) mD_Sort_as_row T
  have M_as_row : MOk CX0 l.prog w K mg base 1 c_Sort "as_row" (spAsRow c_Sort) := ⟨T.o_Sort.cl, _, _, _, ⟨om_Sort_as_row, mi_Sort_as_row, mk_Sort_as_row⟩, FnOk.mono G_Sort_as_row (by decide), mb_Sort_as_row⟩
  have G_Sorts___init__ := ok_Sorts___init__ (P := l.prog) (w := w) (base := base) mD_Sorts___init__ T C_are_rows C_sort_from X_NoSorts M_as_row
  have K_Sorts : MakG (CX1 l.prog w) l.prog w K mg base "Sorts" c_Sorts 7 (spStMk K c_Sorts c_NoSorts) := ⟨_, _, _, _, ⟨o7_Sorts, oi_Sorts, mi_Sorts___init__, o8_Sorts⟩, FnOk.mono G_Sorts___init__ (by decide), mb_Sorts___init__, PySem.W.mg_of X G oa_Sorts, st_imp T.o_Sorts.cl T.n_Sorts_rows⟩
  have G_Sorts_with_speed := ok_Sorts_with_speed (P := l.prog) (w := w) (base := base) mD_Sorts_with_speed T C_is_weight X_NoWeight K_Sorts M_sort_of
  have M_with_speed : MOk (CX1 l.prog w) l.prog w K mg base 9 c_Sorts "with_speed" (spSpeed K c_Sorts c_NoSort c_NoWeight) := ⟨T.o_Sorts.cl, _, _, _, ⟨om_Sorts_with_speed, mi_Sorts_with_speed, mk_Sorts_with_speed⟩, FnOk.mono G_Sorts_with_speed (by decide), mb_Sorts_with_speed⟩
  exact ok_law D_law T C_law_draw C_law_rows C_law_piece C_law_right K_Sorts M_with_speed
theorem walk {l : PySem.W.OpenLaw} {q : Program} {loose : List Str} {XP : (Str → Option Value) → Heap → Prop} {YP : World → Heap → Prop} {d : DefRec} {K : Params → PySem.W.Frag} (hn : l.most = some 63) (hdf : d.params.defaults = [])
    (hY : ∀ (w : World) (h : Heap), YP w h → (K w.params).In h)
    (F : ∀ (w : World) (mg : Str → Option Value) (fa : Addr) (h : Heap), (K w.params).In h → h.Ns mainGlobals mg → mg d.name = some (.ref fa) →
      ∃ fd : FuncData, (∀ (s : Shared) (u : Value), BindsTo s fd ⟨[u], []⟩ [("_law_script", u)]) ∧ ∀ base : Heap, (K w.params).In base → base.Ns mainGlobals mg → FnOk l.prog w (K w.params) mg base CX0 12 fa fd ["_law_script"] (spLaw (K w.params))) :
    PySem.W.WalkO q loose XP YP l.row.toRowW d [] (fun f vs => PySem.call f vs) :=
  L2.walk_of (n := 63) (k := 12) (x := "_law_script") (CX := fun _ => CX0) (sp := fun w => spLaw (K w.params)) hn (by decide) hdf ⟨rfl, by decide, by decide, rfl⟩ hY F (fun _ _ a ns hl _ hS => ⟨a, ns, rfl, hS, hl, fun _ => rfl⟩) fun _ _ _ _ _ z => z
end K34


set_option Elab.async false
set_option linter.all false
set_option maxRecDepth 100000
set_option maxHeartbeats 4000000
theorem PySem.W.Fast.tw11089748535130953056 : True := trivial
theorem PySem.W.Fast.tw4703322111119930146 : True := trivial
theorem PySem.W.Fast.tw11582511869439189220 : True := trivial
theorem PySem.W.Fast.tw6580852123385900389 : True := trivial
theorem PySem.W.Fast.tw3731813897601700325 : True := trivial
theorem PySem.W.Fast.tw4204277265078269733 : True := trivial
theorem PySem.W.Fast.tw7003895468487078662 : True := trivial
theorem PySem.W.Fast.tw7507247892187592968 : True := trivial
theorem PySem.W.Fast.tw8838033612362357164 : True := trivial
theorem PySem.W.Fast.tw7653295435681295215 : True := trivial
theorem PySem.W.Fast.tw16664732059313876083 : True := trivial
theorem PySem.W.Fast.tw1193013768253357683 : True := trivial
theorem PySem.W.Fast.tw16030696089876186003 : True := trivial
theorem PySem.W.Fast.tw13280557235789109235 : True := trivial
theorem PySem.W.Fast.tw2786604150020283254 : True := trivial
theorem PySem.W.Fast.tw7033751274656481368 : True := trivial
theorem PySem.W.Fast.tw13346374941308666329 : True := trivial
theorem PySem.W.Fast.tw5758209088892108314 : True := trivial
theorem PySem.W.Fast.tw16950441616946396253 : True := trivial
theorem PySem.W.Fast.tw10228796148581071997 : True := trivial
theorem PySem.W.Fast.tw6325880167129021183 : True := trivial
open PySem PySem.W PyProof.Rows
set_option maxRecDepth 100000 in
set_option maxHeartbeats 0 in
theorem PySem.Challenge.cw_greywait_k34_claims_and_chores_holds : PySem.Challenge.rw_greywait_k34_claims_and_chores.Holds := by
  w_on; o_law; k_head; (case hw => w_witness2)
  k_fill
  refine K34.walk (l := PySem.Challenge.rw_greywait_k34_claims_and_chores) rfl rfl (fun w h Y => PySem.W.kIn_of Y) ?F
  case F =>
    intro w mg fa h KX G hmg
    refine' K34.all_mk KX G hmg ?a0 ?l0 ?c0 ?k0 ?a1 ?l1 ?c1 ?k1 ?a2 ?l2 ?c2 ?k2 ?a3 ?l3 ?c3 ?k3 ?a4 ?l4 ?c4 ?k4 ?a5 ?l5 ?c5 ?k5 ?a6 ?l6 ?c6 ?k6 ?a7 ?l7 ?c7 ?k7 ?a8 ?l8 ?c8 ?k8 ?a9 ?l9 ?c9 ?k9 ?a10 ?l10 ?c10 ?k10 ?a11 ?l11 ?c11 ?k11 ?a12 ?l12 ?c12 ?k12 ?a13 ?l13 ?c13 ?k13 ?a14 ?l14 ?c14 ?k14 ?a15 ?l15 ?c15 ?k15 ?a16 ?l16 ?c16 ?k16 ?a17 ?l17 ?c17 ?k17 ?a18 ?l18 ?c18 ?k18 ?a19 ?l19 ?c19 ?k19 ?a20 ?l20 ?c20 ?k20 ?z_abs ?z_all ?z_bool ?z_int ?z_isinstance ?z_len ?z_list ?z_range ?z_set ?z_str ?z_tuple ?g_LONGEST_NAME ?g_MOST_TOP ?g_MOST_BOTTOM ?g_MOST_SORTS ?g_MOST_SPAN ?g_MOST_TRIES ?xcg ?xct ?xa_WaitError ?xd_WaitError ?xt_WaitError ?x1_WaitError ?x2_WaitError ?x3_WaitError ?x4_WaitError ?x5_WaitError ?x6_WaitError ?x7_WaitError ?z1_WaitError ?z2_WaitError ?xa_NoWeight ?xd_NoWeight ?xt_NoWeight ?x1_NoWeight ?x2_NoWeight ?x3_NoWeight ?x4_NoWeight ?x5_NoWeight ?x6_NoWeight ?x7_NoWeight ?z1_NoWeight ?z2_NoWeight ?xa_NoSorts ?xd_NoSorts ?xt_NoSorts ?x1_NoSorts ?x2_NoSorts ?x3_NoSorts ?x4_NoSorts ?x5_NoSorts ?x6_NoSorts ?x7_NoSorts ?z1_NoSorts ?z2_NoSorts ?xa_NoSort ?xd_NoSort ?xt_NoSort ?x1_NoSort ?x2_NoSort ?x3_NoSort ?x4_NoSort ?x5_NoSort ?x6_NoSort ?x7_NoSort ?y1_NoSort ?y2_NoSort ?y3_NoSort ?y4_NoSort ?y5_NoSort ?y6_NoSort ?z1_NoSort ?z2_NoSort ?xa_Over ?xd_Over ?xt_Over ?x1_Over ?x2_Over ?x3_Over ?x4_Over ?x5_Over ?x6_Over ?x7_Over ?y1_Over ?y2_Over ?y3_Over ?y4_Over ?y5_Over ?y6_Over ?z1_Over ?z2_Over ?znd ?oa_Piece ?o1_Piece ?o2_Piece ?o3_Piece ?o4_Piece ?o5_Piece ?o6_Piece ?oa_Held ?o1_Held ?o2_Held ?o3_Held ?o4_Held ?o5_Held ?o6_Held ?o7_Held ?o8_Held ?oi_Held ?on_Held_number ?on_Held_sort_name ?on_Held_came ?on_Held_span ?on_Held_tries ?on_Held_spent ?om_Held_is_open ?om_Held_work_left ?oa_Waiting ?o1_Waiting ?o2_Waiting ?o3_Waiting ?o4_Waiting ?o5_Waiting ?o6_Waiting ?o7_Waiting ?o8_Waiting ?oi_Waiting ?on_Waiting_number ?on_Waiting_sort_name ?on_Waiting_came ?on_Waiting_span ?on_Waiting_tries ?on_Waiting_spent ?om_Waiting_is_open ?om_Waiting_work_left ?oa_Done ?o1_Done ?o2_Done ?o3_Done ?o4_Done ?o5_Done ?o6_Done ?o7_Done ?o8_Done ?oi_Done ?on_Done_number ?on_Done_sort_name ?on_Done_came ?on_Done_span ?on_Done_tries ?on_Done_spent ?om_Done_is_open ?om_Done_work_left ?oa_GivenUp ?o1_GivenUp ?o2_GivenUp ?o3_GivenUp ?o4_GivenUp ?o5_GivenUp ?o6_GivenUp ?o7_GivenUp ?o8_GivenUp ?oi_GivenUp ?on_GivenUp_number ?on_GivenUp_sort_name ?on_GivenUp_came ?on_GivenUp_span ?on_GivenUp_tries ?on_GivenUp_spent ?om_GivenUp_is_open ?om_GivenUp_work_left ?oa_CalledOff ?o1_CalledOff ?o2_CalledOff ?o3_CalledOff ?o4_CalledOff ?o5_CalledOff ?o6_CalledOff ?o7_CalledOff ?o8_CalledOff ?oi_CalledOff ?on_CalledOff_number ?on_CalledOff_sort_name ?on_CalledOff_came ?on_CalledOff_span ?on_CalledOff_tries ?on_CalledOff_spent ?om_CalledOff_is_open ?om_CalledOff_work_left ?oa_Missed ?o1_Missed ?o2_Missed ?o3_Missed ?o4_Missed ?o5_Missed ?o6_Missed ?o7_Missed ?o8_Missed ?oi_Missed ?on_Missed_number ?on_Missed_sort_name ?on_Missed_came ?on_Missed_span ?on_Missed_tries ?on_Missed_spent ?om_Missed_is_open ?om_Missed_work_left ?oa_Sort ?o1_Sort ?o2_Sort ?o3_Sort ?o4_Sort ?o5_Sort ?o6_Sort ?o7_Sort ?o8_Sort ?oi_Sort ?on_Sort_name ?on_Sort_weight ?on_Sort_speed ?on_Sort_span ?on_Sort_tries ?om_Sort_as_row ?oa_Sorts ?o1_Sorts ?o2_Sorts ?o3_Sorts ?o4_Sorts ?o5_Sorts ?o6_Sorts ?o7_Sorts ?o8_Sorts ?oi_Sorts ?on_Sorts_rows ?om_Sorts_sort_of ?om_Sorts_with_speed ?ml_Piece___init__ ?mc_Piece___init__ ?mk_Piece___init__ ?mi_Piece___init__ ?mt_Piece___init__ ?mu_Piece___init__ ?ml_Held_is_open ?mc_Held_is_open ?mk_Held_is_open ?mi_Held_is_open ?ml_Piece_work_left ?mc_Piece_work_left ?mk_Piece_work_left ?mi_Piece_work_left ?ml_Waiting_is_open ?mc_Waiting_is_open ?mk_Waiting_is_open ?mi_Waiting_is_open ?ml_Piece_is_open ?mc_Piece_is_open ?mk_Piece_is_open ?mi_Piece_is_open ?ml_Sort___init__ ?mc_Sort___init__ ?mk_Sort___init__ ?mi_Sort___init__ ?ml_Sort_as_row ?mc_Sort_as_row ?mk_Sort_as_row ?mi_Sort_as_row ?ml_Sorts___init__ ?mc_Sorts___init__ ?mk_Sorts___init__ ?mi_Sorts___init__ ?ml_Sorts_sort_of ?mc_Sorts_sort_of ?mk_Sorts_sort_of ?mi_Sorts_sort_of ?ml_Sorts_with_speed ?mc_Sorts_with_speed ?mk_Sorts_with_speed ?mi_Sorts_with_speed ?q_int_int ?q_int_bool ?q_bool_bool ?q_str_str ?q_tuple_tuple ?q_list_list
    (case a0 => k_is)
    (case l0 => k_is)
    (case c0 => k_is)
    (case k0 => k_is)
    (case a1 => k_is)
    (case l1 => k_is)
    (case c1 => k_is)
    (case k1 => k_is)
    (case a2 => k_is)
    (case l2 => k_is)
    (case c2 => k_is)
    (case k2 => k_is)
    (case a3 => k_is)
    (case l3 => k_is)
    (case c3 => k_is)
    (case k3 => k_is)
    (case a4 => k_is)
    (case l4 => k_is)
    (case c4 => k_is)
    (case k4 => k_is)
    (case a5 => k_is)
    (case l5 => k_is)
    (case c5 => k_is)
    (case k5 => k_is)
    (case a6 => k_is)
    (case l6 => k_is)
    (case c6 => k_is)
    (case k6 => k_is)
    (case a7 => k_is)
    (case l7 => k_is)
    (case c7 => k_is)
    (case k7 => k_is)
    (case a8 => k_is)
    (case l8 => k_is)
    (case c8 => k_is)
    (case k8 => k_is)
    (case a9 => k_is)
    (case l9 => k_is)
    (case c9 => k_is)
    (case k9 => k_is)
    (case a10 => k_is)
    (case l10 => k_is)
    (case c10 => k_is)
    (case k10 => k_is)
    (case a11 => k_is)
    (case l11 => k_is)
    (case c11 => k_is)
    (case k11 => k_is)
    (case a12 => k_is)
    (case l12 => k_is)
    (case c12 => k_is)
    (case k12 => k_is)
    (case a13 => k_is)
    (case l13 => k_is)
    (case c13 => k_is)
    (case k13 => k_is)
    (case a14 => k_is)
    (case l14 => k_is)
    (case c14 => k_is)
    (case k14 => k_is)
    (case a15 => k_is)
    (case l15 => k_is)
    (case c15 => k_is)
    (case k15 => k_is)
    (case a16 => k_is)
    (case l16 => k_is)
    (case c16 => k_is)
    (case k16 => k_is)
    (case a17 => k_is)
    (case l17 => k_is)
    (case c17 => k_is)
    (case k17 => k_is)
    (case a18 => k_is)
    (case l18 => k_is)
    (case c18 => k_is)
    (case k18 => k_is)
    (case a19 => k_is)
    (case l19 => k_is)
    (case c19 => k_is)
    (case k19 => k_is)
    (case a20 => k_is)
    (case l20 => k_is)
    (case c20 => k_is)
    (case k20 => k_is)
    (case z_abs => k_is)
    (case z_all => k_is)
    (case z_bool => k_is)
    (case z_int => k_is)
    (case z_isinstance => k_is)
    (case z_len => k_is)
    (case z_list => k_is)
    (case z_range => k_is)
    (case z_set => k_is)
    (case z_str => k_is)
    (case z_tuple => k_is)
    (case g_LONGEST_NAME => k_is)
    (case g_MOST_TOP => k_is)
    (case g_MOST_BOTTOM => k_is)
    (case g_MOST_SORTS => k_is)
    (case g_MOST_SPAN => k_is)
    (case g_MOST_TRIES => k_is)
    (case xcg => k_is)
    (case xct => k_is)
    (case xa_WaitError => k_is)
    (case xd_WaitError => k_is)
    (case xt_WaitError => k_is)
    (case x1_WaitError => k_is)
    (case x2_WaitError => k_is)
    (case x3_WaitError => k_is)
    (case x4_WaitError => k_is)
    (case x5_WaitError => k_is)
    (case x6_WaitError => k_is)
    (case x7_WaitError => k_is)
    (case z1_WaitError => rfl)
    (case z2_WaitError => kernel_rfl)
    (case xa_NoWeight => k_is)
    (case xd_NoWeight => k_is)
    (case xt_NoWeight => k_is)
    (case x1_NoWeight => k_is)
    (case x2_NoWeight => k_is)
    (case x3_NoWeight => k_is)
    (case x4_NoWeight => k_is)
    (case x5_NoWeight => k_is)
    (case x6_NoWeight => k_is)
    (case x7_NoWeight => k_is)
    (case z1_NoWeight => rfl)
    (case z2_NoWeight => kernel_rfl)
    (case xa_NoSorts => k_is)
    (case xd_NoSorts => k_is)
    (case xt_NoSorts => k_is)
    (case x1_NoSorts => k_is)
    (case x2_NoSorts => k_is)
    (case x3_NoSorts => k_is)
    (case x4_NoSorts => k_is)
    (case x5_NoSorts => k_is)
    (case x6_NoSorts => k_is)
    (case x7_NoSorts => k_is)
    (case z1_NoSorts => rfl)
    (case z2_NoSorts => kernel_rfl)
    (case xa_NoSort => k_is)
    (case xd_NoSort => k_is)
    (case xt_NoSort => k_is)
    (case x1_NoSort => k_is)
    (case x2_NoSort => k_is)
    (case x3_NoSort => k_is)
    (case x4_NoSort => k_is)
    (case x5_NoSort => k_is)
    (case x6_NoSort => k_is)
    (case x7_NoSort => k_is)
    (case y1_NoSort => k_is)
    (case y2_NoSort => k_is)
    (case y3_NoSort => k_is)
    (case y4_NoSort => k_is)
    (case y5_NoSort => k_is)
    (case y6_NoSort => k_is)
    (case z1_NoSort => rfl)
    (case z2_NoSort => kernel_rfl)
    (case xa_Over => k_is)
    (case xd_Over => k_is)
    (case xt_Over => k_is)
    (case x1_Over => k_is)
    (case x2_Over => k_is)
    (case x3_Over => k_is)
    (case x4_Over => k_is)
    (case x5_Over => k_is)
    (case x6_Over => k_is)
    (case x7_Over => k_is)
    (case y1_Over => k_is)
    (case y2_Over => k_is)
    (case y3_Over => k_is)
    (case y4_Over => k_is)
    (case y5_Over => k_is)
    (case y6_Over => k_is)
    (case z1_Over => rfl)
    (case z2_Over => kernel_rfl)
    (case znd => decide)
    (case oa_Piece => k_is)
    (case o1_Piece => k_is)
    (case o2_Piece => k_is)
    (case o3_Piece => k_is)
    (case o4_Piece => k_is)
    (case o5_Piece => k_is)
    (case o6_Piece => k_is)
    (case oa_Held => k_is)
    (case o1_Held => k_is)
    (case o2_Held => k_is)
    (case o3_Held => k_is)
    (case o4_Held => k_is)
    (case o5_Held => k_is)
    (case o6_Held => k_is)
    (case o7_Held => k_is)
    (case o8_Held => k_is)
    (case oi_Held => k_is)
    (case on_Held_number => k_is)
    (case on_Held_sort_name => k_is)
    (case on_Held_came => k_is)
    (case on_Held_span => k_is)
    (case on_Held_tries => k_is)
    (case on_Held_spent => k_is)
    (case om_Held_is_open => k_is)
    (case om_Held_work_left => k_is)
    (case oa_Waiting => k_is)
    (case o1_Waiting => k_is)
    (case o2_Waiting => k_is)
    (case o3_Waiting => k_is)
    (case o4_Waiting => k_is)
    (case o5_Waiting => k_is)
    (case o6_Waiting => k_is)
    (case o7_Waiting => k_is)
    (case o8_Waiting => k_is)
    (case oi_Waiting => k_is)
    (case on_Waiting_number => k_is)
    (case on_Waiting_sort_name => k_is)
    (case on_Waiting_came => k_is)
    (case on_Waiting_span => k_is)
    (case on_Waiting_tries => k_is)
    (case on_Waiting_spent => k_is)
    (case om_Waiting_is_open => k_is)
    (case om_Waiting_work_left => k_is)
    (case oa_Done => k_is)
    (case o1_Done => k_is)
    (case o2_Done => k_is)
    (case o3_Done => k_is)
    (case o4_Done => k_is)
    (case o5_Done => k_is)
    (case o6_Done => k_is)
    (case o7_Done => k_is)
    (case o8_Done => k_is)
    (case oi_Done => k_is)
    (case on_Done_number => k_is)
    (case on_Done_sort_name => k_is)
    (case on_Done_came => k_is)
    (case on_Done_span => k_is)
    (case on_Done_tries => k_is)
    (case on_Done_spent => k_is)
    (case om_Done_is_open => k_is)
    (case om_Done_work_left => k_is)
    (case oa_GivenUp => k_is)
    (case o1_GivenUp => k_is)
    (case o2_GivenUp => k_is)
    (case o3_GivenUp => k_is)
    (case o4_GivenUp => k_is)
    (case o5_GivenUp => k_is)
    (case o6_GivenUp => k_is)
    (case o7_GivenUp => k_is)
    (case o8_GivenUp => k_is)
    (case oi_GivenUp => k_is)
    (case on_GivenUp_number => k_is)
    (case on_GivenUp_sort_name => k_is)
    (case on_GivenUp_came => k_is)
    (case on_GivenUp_span => k_is)
    (case on_GivenUp_tries => k_is)
    (case on_GivenUp_spent => k_is)
    (case om_GivenUp_is_open => k_is)
    (case om_GivenUp_work_left => k_is)
    (case oa_CalledOff => k_is)
    (case o1_CalledOff => k_is)
    (case o2_CalledOff => k_is)
    (case o3_CalledOff => k_is)
    (case o4_CalledOff => k_is)
    (case o5_CalledOff => k_is)
    (case o6_CalledOff => k_is)
    (case o7_CalledOff => k_is)
    (case o8_CalledOff => k_is)
    (case oi_CalledOff => k_is)
    (case on_CalledOff_number => k_is)
    (case on_CalledOff_sort_name => k_is)
    (case on_CalledOff_came => k_is)
    (case on_CalledOff_span => k_is)
    (case on_CalledOff_tries => k_is)
    (case on_CalledOff_spent => k_is)
    (case om_CalledOff_is_open => k_is)
    (case om_CalledOff_work_left => k_is)
    (case oa_Missed => k_is)
    (case o1_Missed => k_is)
    (case o2_Missed => k_is)
    (case o3_Missed => k_is)
    (case o4_Missed => k_is)
    (case o5_Missed => k_is)
    (case o6_Missed => k_is)
    (case o7_Missed => k_is)
    (case o8_Missed => k_is)
    (case oi_Missed => k_is)
    (case on_Missed_number => k_is)
    (case on_Missed_sort_name => k_is)
    (case on_Missed_came => k_is)
    (case on_Missed_span => k_is)
    (case on_Missed_tries => k_is)
    (case on_Missed_spent => k_is)
    (case om_Missed_is_open => k_is)
    (case om_Missed_work_left => k_is)
    (case oa_Sort => k_is)
    (case o1_Sort => k_is)
    (case o2_Sort => k_is)
    (case o3_Sort => k_is)
    (case o4_Sort => k_is)
    (case o5_Sort => k_is)
    (case o6_Sort => k_is)
    (case o7_Sort => k_is)
    (case o8_Sort => k_is)
    (case oi_Sort => k_is)
    (case on_Sort_name => k_is)
    (case on_Sort_weight => k_is)
    (case on_Sort_speed => k_is)
    (case on_Sort_span => k_is)
    (case on_Sort_tries => k_is)
    (case om_Sort_as_row => k_is)
    (case oa_Sorts => k_is)
    (case o1_Sorts => k_is)
    (case o2_Sorts => k_is)
    (case o3_Sorts => k_is)
    (case o4_Sorts => k_is)
    (case o5_Sorts => k_is)
    (case o6_Sorts => k_is)
    (case o7_Sorts => k_is)
    (case o8_Sorts => k_is)
    (case oi_Sorts => k_is)
    (case on_Sorts_rows => k_is)
    (case om_Sorts_sort_of => k_is)
    (case om_Sorts_with_speed => k_is)
    (case ml_Piece___init__ => k_is)
    (case mc_Piece___init__ => k_is)
    (case mk_Piece___init__ => k_is)
    (case mi_Piece___init__ => k_is)
    (case mt_Piece___init__ => k_is)
    (case mu_Piece___init__ => rfl)
    (case ml_Held_is_open => k_is)
    (case mc_Held_is_open => k_is)
    (case mk_Held_is_open => k_is)
    (case mi_Held_is_open => k_is)
    (case ml_Piece_work_left => k_is)
    (case mc_Piece_work_left => k_is)
    (case mk_Piece_work_left => k_is)
    (case mi_Piece_work_left => k_is)
    (case ml_Waiting_is_open => k_is)
    (case mc_Waiting_is_open => k_is)
    (case mk_Waiting_is_open => k_is)
    (case mi_Waiting_is_open => k_is)
    (case ml_Piece_is_open => k_is)
    (case mc_Piece_is_open => k_is)
    (case mk_Piece_is_open => k_is)
    (case mi_Piece_is_open => k_is)
    (case ml_Sort___init__ => k_is)
    (case mc_Sort___init__ => k_is)
    (case mk_Sort___init__ => k_is)
    (case mi_Sort___init__ => k_is)
    (case ml_Sort_as_row => k_is)
    (case mc_Sort_as_row => k_is)
    (case mk_Sort_as_row => k_is)
    (case mi_Sort_as_row => k_is)
    (case ml_Sorts___init__ => k_is)
    (case mc_Sorts___init__ => k_is)
    (case mk_Sorts___init__ => k_is)
    (case mi_Sorts___init__ => k_is)
    (case ml_Sorts_sort_of => k_is)
    (case mc_Sorts_sort_of => k_is)
    (case mk_Sorts_sort_of => k_is)
    (case mi_Sorts_sort_of => k_is)
    (case ml_Sorts_with_speed => k_is)
    (case mc_Sorts_with_speed => k_is)
    (case mk_Sorts_with_speed => k_is)
    (case mi_Sorts_with_speed => k_is)
    (case q_int_int => kit_is)
    (case q_int_bool => kit_is)
    (case q_bool_bool => kit_is)
    (case q_str_str => kit_is)
    (case q_tuple_tuple => kit_is)
    (case q_list_list => kit_is)

