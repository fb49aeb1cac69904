import PyProof.Rows.All
import Wide.All
import OpenK.AllK
import Wide.FinOn
import PyProof.EqAt
import PyProof.EqKinds
import PyProof.TupleCall
import KE.KIntText
import PyProof.Rows.ReprOcc
import PyProof.ExcInit
import PyProof.ExcClass2
import PyProof.InstStoreFacts
import PyProof.NsDelKeeps
import KE.KSortTup
import KE.KLam
import KE.KMinBuiltin
import PyProof.DictValues
import PyProof.ReprRoads
import KE.KDictList
import PyProof.AttrMissHeap
import KE.KDictOf
import PyProof.EnumMake
import PyProof.ZipIter
import PyProof.SumWalk
import PyProof.DictWalks
import PyProof.ListNew
import KE.KRevIter
import KE.KRevSl
import PyProof.Rows.SetFrom
import PySem.Challenge.RW_greywait_k63_whole_what_shows_a_latest_t
set_option Elab.async false
set_option linter.all false
set_option maxRecDepth 100000
namespace L2
open PySem PySem.Spec PyProof.Rows
abbrev Key := Sum Int Str
def zhJ : Key → Value → Bool
  | .inl k, v => Value.isInt k v
  | .inr x, v => Value.isStrOf x v
def keyH (w : World) : Key → Int
  | .inl k => hashInt k
  | .inr x => hashStr w x
theorem za4 : ∀ {k : Key} {v : Value}, zhJ k v = true → (∃ i t, k = Sum.inl i ∧ v = Value.int i t) ∨ (∃ x t, k = Sum.inr x ∧ v = Value.str x t)
  | .inl i, v, h => by
    obtain ⟨t, e⟩ := Value.isInt_shape (k := i) (v := v) h
    exact .inl ⟨i, t, rfl, e⟩
  | .inr x, v, h => by
    obtain ⟨t, e⟩ := Value.isStrOf_shape (x := x) (v := v) h
    exact .inr ⟨x, t, rfl, e⟩
theorem zig (i : Int) (t : Tok) : zhJ (.inl i) (.int i t) = true := by simp [zhJ, Value.isInt]
theorem zih (x : Str) (t : Tok) : zhJ (.inr x) (.str x t) = true := by simp [zhJ, Value.isStrOf]
theorem zlI (a b : Int) : decide ((Sum.inl a : Key) = Sum.inl b) = (a == b) := by
  by_cases e : a = b
  · subst e; simp
  · have h : ¬ (Sum.inl a : Key) = Sum.inl b := fun q => e (Sum.inl.inj q)
    rw [decide_eq_false h]
    exact (beq_eq_false_iff_ne.mpr e).symm
theorem zlJ (a b : Str) : decide ((Sum.inr a : Key) = Sum.inr b) = decide (a = b) := by
  by_cases e : a = b
  · subst e; simp
  · have h : ¬ (Sum.inr a : Key) = Sum.inr b := fun q => e (Sum.inr.inj q)
    rw [decide_eq_false h, decide_eq_false e]
theorem zlK (a : Int) (b : Str) : decide ((Sum.inl a : Key) = Sum.inr b) = false := decide_eq_false (fun q => nomatch q)
theorem zlL (a : Str) (b : Int) : decide ((Sum.inr a : Key) = Sum.inl b) = false := decide_eq_false (fun q => nomatch q)
def zbL (prog : Program) (w : World) : PySem.KeyKind prog w Key where
  is := zhJ
  hash := keyH w
  inj := fun v a b ha hb => by
    rcases za4 ha with ⟨i, t, rfl, rfl⟩ | ⟨x, t, rfl, rfl⟩
    · rcases za4 hb with ⟨j, u, rfl, e⟩ | ⟨y, u, rfl, e⟩
      · injection e with e1 _; rw [e1]
      · exact nomatch e
    · rcases za4 hb with ⟨j, u, rfl, e⟩ | ⟨y, u, rfl, e⟩
      · exact nomatch e
      · injection e with e1 _; rw [e1]
  byValue := fun k v h => by
    rcases za4 h with ⟨i, t, rfl, rfl⟩ | ⟨x, t, rfl, rfl⟩ <;> rfl
  pyHash := fun hv h => by
    rcases za4 hv with ⟨i, t, rfl, rfl⟩ | ⟨x, t, rfl, rfl⟩
    · exact wpAny_pyHash_int h
    · exact wpAny_pyHash_str h
  eqBool := fun hu hv h => by
    rcases za4 hu with ⟨i, t, rfl, rfl⟩ | ⟨x, t, rfl, rfl⟩
    · rcases za4 hv with ⟨j, u, rfl, rfl⟩ | ⟨y, u, rfl, rfl⟩
      · rw [zlI] at h; exact wpAny_eqBool_int h
      · rw [zlK] at h; exact SeqAt.EqAt.int_str i t y u _ _ _ _ h
    · rcases za4 hv with ⟨j, u, rfl, rfl⟩ | ⟨y, u, rfl, rfl⟩
      · rw [zlL] at h; exact SeqAt.EqAt.str_int x t j u _ _ _ _ h
      · rw [zlJ] at h; exact wpAny_eqBool_str h
  «strs» := fun k x t v h => by
    rcases za4 h with ⟨i, u, rfl, e⟩ | ⟨y, u, rfl, e⟩
    · exact nomatch e
    · injection e with e1 _
      subst e1
      cases v <;> rfl
theorem zgs (prog : Program) (w : World) (i : Int) (t : Tok) : (zbL prog w).is (.inl i) (.int i t) = true := zig i t
theorem zgt (prog : Program) (w : World) (x : Str) (t : Tok) : (zbL prog w).is (.inr x) (.str x t) = true := zih x t
end L2
namespace L2
open PySem PySem.Spec PyProof.Rows
inductive V where
  | non | bl (b : Bool) | int (i : Int) | str (x : Str) | byt (b : Array UInt8) | flt (b : UInt64) | ref (a : Addr) | ty (n : String)
  deriving DecidableEq
def RelV : V → Value → Prop
  | .non, u => u = Value.none
  | .bl b, u => u = Value.bool b
  | .int i, u => ∃ t, u = Value.int i t
  | .str x, u => ∃ t, u = Value.str x t
  | .byt b, u => ∃ t, u = Value.bytes b t
  | .flt b, u => ∃ t, u = Value.float b t
  | .ref a, u => u = Value.ref a
  | .ty n, u => u = Value.type n
abbrev Vals : List V → List Value → Prop := Paired RelV
theorem Vals.length {xs : List V} {us : List Value} (r : Vals xs us) : xs.length = us.length := Paired.length r
theorem Vals.get : ∀ {xs : List V} {us : List Value} {i : Nat} {x : V}, Vals xs us → xs[i]? = some x → ∃ u, us[i]? = some u ∧ RelV x u
  | _, _, _, _, .nil, e => by simp at e
  | _, _, 0, _, .cons r _, e => by simp at e; subst e; exact ⟨_, rfl, r⟩
  | _, _, i + 1, x, .cons _ t, e => by
    obtain ⟨u, h1, h2⟩ := Vals.get (i := i) (x := x) t (by simpa using e)
    exact ⟨u, by simpa using h1, h2⟩
theorem Vals.set {x : V} {u : Value} (r : RelV x u) : ∀ {xs : List V} {us : List Value} (i : Nat), Vals xs us → Vals (xs.set i x) (us.set i u)
  | _, _, _, .nil => .nil
  | _, _, 0, .cons _ t => .cons r t
  | _, _, i + 1, .cons q t => .cons q (Vals.set r i t)
theorem Vals.append : ∀ {xs ys : List V} {us ws : List Value}, Vals xs us → Vals ys ws → Vals (xs ++ ys) (us ++ ws)
  | _, _, _, _, .nil, s => s
  | _, _, _, _, .cons r t, s => .cons r (Vals.append t s)
theorem Vals.take : ∀ {xs : List V} {us : List Value} (n : Nat), Vals xs us → Vals (xs.take n) (us.take n)
  | _, _, 0, _ => .nil
  | _, _, _ + 1, .nil => .nil
  | _, _, n + 1, .cons r t => .cons r (Vals.take n t)
theorem Vals.drop : ∀ {xs : List V} {us : List Value} (n : Nat), Vals xs us → Vals (xs.drop n) (us.drop n)
  | _, _, 0, r => r
  | _, _, _ + 1, .nil => .nil
  | _, _, n + 1, .cons _ t => Vals.drop n t
def RelO : Option V → Option Value → Prop
  | some v, some u => RelV v u
  | none, none => True
  | _, _ => False
def KV {κ : Type} : List (κ × V) → List (κ × Value) → Prop := Paired fun (p : κ × V) (q : κ × Value) => p.1 = q.1 ∧ RelV p.2 q.2
def kV : Key → V
  | .inl i => .int i
  | .inr x => .str x
inductive HO where
    | lst (xs : List V)
    | tup (xs : List V)
    | dK (kvs : List (Key × V)) | dT (kvs : List (List Key × V))
    | set (S : Int → Bool) (n : Nat)
    | ins (C dx : Addr) (fs : List (Str × V))
    | own (x : Addr)
    | xd (fs : List (Str × V))
    | met (f x : Addr)
    | rng (lo hi : Int)
    | frz (o : Obj) (u : HO)
    | tbl (lp : Pos) (lq : Str)
    | ext (φ : Heap → Prop)
abbrev Hp := Addr → Option HO
def upd (H : Hp) (a : Addr) (o : HO) : Hp := fun b => if b = a then some o else H b
theorem zai {H : Hp} {a : Addr} {o : HO} : upd H a o a = some o := by unfold upd; rw [if_pos rfl]
theorem zah {H : Hp} {a b : Addr} {o : HO} (h : b ≠ a) : upd H a o b = H b := by unfold upd; rw [if_neg h]
theorem zii {H : Hp} {a : Addr} {o u : HO} : upd (upd H a o) a u = upd H a u := by
  funext b; unfold upd; split <;> rfl
theorem zhK {H : Hp} {a b : Addr} {o u : HO} (h : H a = some o) (h' : H b = some u) (d : o ≠ u) : a ≠ b := by
  intro e; subst e; rw [h] at h'; exact d (Option.some.inj h')
theorem zar {H : Hp} {a b : Addr} {o : HO} (h : H a = some o) (h' : H b = none) : a ≠ b := by
  intro e; subst e; rw [h] at h'; cases h'
section
variable (P : Program) (w : World)
def zbr (H : Hp) (h : Heap) (a : Addr) : HO → Prop
  | .lst xs => xs.length ≤ sizeLine ∧ ∃ (its : List Value) (n : Nat), Vals xs its ∧ h.get? a = some { cls := .type "list", data := .seq its.toArray n }
  | .tup xs => xs.length ≤ sizeLine ∧ ∃ its : List Value, Vals xs its ∧ IsTup h a its.toArray
  | .dK kvs => kvs.length ≤ sizeLine ∧ (a == sysModules) = false ∧ ∃ vs, KV kvs vs ∧ h.DictOf (zbL P w) a vs
  | .dT kvs => kvs.length ≤ sizeLine ∧ (a == sysModules) = false ∧ ∃ xs : List (List Key × Addr × Value),
      Paired (fun (p : List Key × V) (q : List Key × Addr × Value) => p.1 = q.1 ∧ H q.2.1 = some (.tup (p.1.map kV)) ∧ RelV p.2 q.2.2) kvs xs ∧
      ∃ o es ep, h.get? a = some o ∧ o.ExactDict ∧ o.data = .dict es ep ∧ es.toList = xs.map (entryOfKey (tupleKind (zbL P w))) ∧ (xs.map (·.1)).Nodup
  | .set S n => h.SetOf (intKind P w) a S n
  | .ins C dx fs => H dx = some (.own a) ∧ fs.length ≤ 1000 ∧ dx ≠ a ∧ h.get? a = some (PySem.W.instObj C dx) ∧
      ∃ mA, h.Ns1 dx mA ∧ (∀ f, RelO (fs.lookup f) (mA f)) ∧ PySem.Within mA (fs.map (·.1))
  | .own _ => ∃ o, h.get? a = some o
  | .xd fs => ∃ mA, h.Ns1 a mA ∧ ∀ f, RelO (fs.lookup f) (mA f)
  | .rng lo hi => ∃ t u v, h.get? a = some { cls := .type "range", data := .fields #[.int lo t, .int hi u, .int 1 v] }
  | .frz o u => h.get? a = some o ∧ zbr H h a u
  | .tbl lp lq => ∃ vs : Array Value, h.get? a = some { cls := .none, data := .fields vs } ∧ TriplesOk vs.toList ∧ (codeAmong lp vs.toList = none ∨ ∃ c oc us t, codeAmong lp vs.toList = some (.ref c) ∧ H c = some (.frz oc (.own c)) ∧ oc.data = .fields us ∧ us[1]? = some (.str lq t))
  | .met f x => h.get? a = some (PySem.W.methodObj (.ref f) (.ref x))
  | .ext φ => φ h ∧ (∃ o, h.get? a = some o) ∧ ∀ h1 h2 : Heap, φ h1 → (∀ o, h1.get? a = some o → h2.get? a = some o) → φ h2
def HOk (H : Hp) (h : Heap) : Prop := ∀ a o, H a = some o → zbr P w H h a o
end
section
variable {P : Program} {w : World} {H H' : Hp} {h h' : Heap} {a : Addr} {o : HO}
theorem zbr.lt (x : zbr P w H h a o) : a < h.objs.size := by
  cases o with
  | lst xs => obtain ⟨_, _, _, _, e⟩ := x; exact Heap.lt_size e
  | tup xs => obtain ⟨_, _, _, p⟩ := x; exact p.lt
  | dK kvs => obtain ⟨_, _, _, _, o, _, _, e, _⟩ := x; exact Heap.lt_size e
  | dT kvs => obtain ⟨_, _, _, _, o, _, _, e, _⟩ := x; exact Heap.lt_size e
  | set S n => obtain ⟨o, _, _, _, e, _⟩ := x; exact Heap.lt_size e
  | ins C dx fs => obtain ⟨_, _, _, e, _⟩ := x; exact Heap.lt_size e
  | own y => obtain ⟨_, e⟩ := x; exact Heap.lt_size e
  | xd fs => obtain ⟨_, ⟨_, _, _, e, _⟩, _⟩ := x; exact Heap.lt_size e
  | rng lo hi => obtain ⟨_, _, _, e⟩ := x; exact Heap.lt_size e
  | frz ob u => obtain ⟨e, _⟩ := x; exact Heap.lt_size e
  | tbl lp lq => obtain ⟨_, e, _⟩ := x; exact Heap.lt_size e
  | met f y => exact Heap.lt_size (show h.get? a = some _ from x)
  | ext φ => obtain ⟨_, ⟨_, e⟩, _⟩ := x; exact Heap.lt_size e
theorem Paired.mapP {α β : Type} {F G : α → β → Prop} : ∀ {l₁ : List α} {l₂ : List β}, Paired F l₁ l₂ → (∀ a b, F a b → G a b) → Paired G l₁ l₂
  | _, _, .nil, _ => .nil
  | _, _, .cons r t, f => .cons (f _ _ r) (Paired.mapP t f)
theorem zbr.stay (x : zbr P w H h a o) (k : ∀ b u, (b = a ∨ H b = some (.own a)) → h.get? b = some u → h'.get? b = some u)
    (ho : ∀ b, H b = some (.own a) → H' b = some (.own a)) (ht : ∀ b xs, H b = some (.tup xs) → H' b = some (.tup xs)) (hz : ∀ b ob u, H b = some (.frz ob u) → H' b = some (.frz ob u)) : zbr P w H' h' a o := by
  induction o with
  | lst xs => obtain ⟨z, its, n, r, e⟩ := x; exact ⟨z, its, n, r, k _ _ (.inl rfl) e⟩
  | tup xs => obtain ⟨z, its, r, ob, e, c⟩ := x; exact ⟨z, its, r, ob, k _ _ (.inl rfl) e, c⟩
  | dK kvs => obtain ⟨z, y, vs, r, ob, es, ep, e, c⟩ := x; exact ⟨z, y, vs, r, ob, es, ep, k _ _ (.inl rfl) e, c⟩
  | dT kvs =>
    obtain ⟨z, y, xs, r, ob, es, ep, e, c⟩ := x
    exact ⟨z, y, xs, Paired.mapP r fun p q z => ⟨z.1, ht _ _ z.2.1, z.2.2⟩, ob, es, ep, k _ _ (.inl rfl) e, c⟩
  | set S n => obtain ⟨ob, es, ep, t, e, c⟩ := x; exact ⟨ob, es, ep, t, k _ _ (.inl rfl) e, c⟩
  | ins C dx fs =>
    obtain ⟨d, z, ne, e, mA, ⟨od, es, ep, e2, c⟩, r⟩ := x
    exact ⟨ho _ d, z, ne, k _ _ (.inl rfl) e, mA, ⟨od, es, ep, k _ _ (.inr d) e2, c⟩, r⟩
  | own y => obtain ⟨ob, e⟩ := x; exact ⟨ob, k _ _ (.inl rfl) e⟩
  | xd fs => obtain ⟨mA, ⟨od, es, ep, e, c⟩, r⟩ := x; exact ⟨mA, ⟨od, es, ep, k _ _ (.inl rfl) e, c⟩, r⟩
  | rng lo hi => obtain ⟨t, u, v, e⟩ := x; exact ⟨t, u, v, k _ _ (.inl rfl) e⟩
  | frz ob u ih => obtain ⟨e, q⟩ := x; exact ⟨k _ _ (.inl rfl) e, ih q⟩
  | tbl lp lq =>
    obtain ⟨vs, e, tr, r⟩ := x
    exact ⟨vs, k a _ (.inl rfl) e, tr, r.imp id fun ⟨c, oc, us, t, e1, e2, e3⟩ => ⟨c, oc, us, t, e1, hz _ _ _ e2, e3⟩⟩
  | met f y =>
    have e : h.get? a = some (PySem.W.methodObj (.ref f) (.ref y)) := x
    show h'.get? a = some (PySem.W.methodObj (.ref f) (.ref y))
    exact k a _ (.inl rfl) e
  | ext φ => obtain ⟨p, ⟨o, e⟩, st⟩ := x; exact ⟨st _ _ p fun o q => k _ _ (.inl rfl) q, ⟨o, k _ _ (.inl rfl) e⟩, st⟩
theorem HOk.lt (x : HOk P w H h) (e : H a = some o) : a < h.objs.size := (x a o e).lt
theorem HOk.fresh (x : HOk P w H h) (e : h.objs.size ≤ a) : H a = none := by
  cases q : H a with
  | none => rfl
  | some u => exact absurd (Nat.lt_of_lt_of_le (x.lt q) e) (Nat.lt_irrefl _)
theorem HOk.kept (x : HOk P w H h) (k : ∀ b u, h.get? b = some u → h'.get? b = some u) : HOk P w H h' := fun a o e =>
  (x a o e).stay (fun b u _ q => k b u q) (fun _ q => q) (fun _ _ q => q) fun _ _ _ q => q
theorem HOk.laid (x : HOk P w H h) (k : ∀ b u, h.get? b = some u → h'.get? b = some u) (hp : h.objs.size ≤ a) (new : zbr P w (upd H a o) h' a o) : HOk P w (upd H a o) h' := fun b u e => by
  have hn := x.fresh hp
  by_cases hb : b = a
  · subst hb; rw [zai] at e; cases e; exact new
  · rw [zah hb] at e
    exact (x b u e).stay (fun c v _ q => k c v q) (fun c q => by rw [zah (zar q hn)]; exact q) (fun c xs q => by rw [zah (zar q hn)]; exact q) fun c ob xs q => by rw [zah (zar q hn)]; exact q
end
def Rd (H : Hp) (a : Addr) (u : HO) : Prop := H a = some u ∨ ∃ o, H a = some (.frz o u)
theorem Rd.ok {P : Program} {w : World} {H : Hp} {h : Heap} {a : Addr} {u : HO} (r : Rd H a u) (x : HOk P w H h) : zbr P w H h a u := by
  rcases r with r | ⟨o, r⟩
  · exact x a u r
  · obtain ⟨_, q⟩ := x a _ r
    exact q
def Mut : Option HO → Prop
  | some (.lst _) => True
  | some (.dK _) => True
  | some (.dT _) => True
  | some (.set _ _) => True
  | some (.ins _ _ _) => True
  | some (.ext _) => True
  | _ => False
section
variable {P : Program} {w : World} {H : Hp} {h h' : Heap} {x e : Addr} {o' : HO}
theorem HOk.write (ok : HOk P w H h) (mu : Mut (H x)) (he : e = x ∨ H e = some (.own x)) (k : ∀ b u, b ≠ e → h.get? b = some u → h'.get? b = some u) (heo : ∃ u, h'.get? e = some u)
    (new : zbr P w (upd H x o') h' x o') : HOk P w (upd H x o') h' := fun b u q => by
  have nown : ∀ c y, H c = some (.own y) → c ≠ x := fun c y r z => by subst z; rw [r] at mu; exact mu
  have ntup : ∀ c xs, H c = some (.tup xs) → c ≠ x := fun c xs r z => by subst z; rw [r] at mu; exact mu
  have nfrz : ∀ c ob xs, H c = some (.frz ob xs) → c ≠ x := fun c ob xs r z => by subst z; rw [r] at mu; exact mu
  by_cases hb : b = x
  · subst hb; rw [zai] at q; cases q; exact new
  · rw [zah hb] at q
    by_cases hbe : b = e
    · have q' : H b = some (.own x) := by
        rcases he with z | z
        · exact absurd (hbe.trans z) hb
        · rw [hbe]; exact z
      rw [q] at q'; cases q'
      obtain ⟨v, hv⟩ := heo
      exact ⟨v, by rw [hbe]; exact hv⟩
    · refine (ok b u q).stay (fun c v hc r => k c v ?_ r) (fun c r => by rw [zah (nown c b r)]; exact r) (fun c xs r => by rw [zah (ntup c xs r)]; exact r) fun c ob xs r => by rw [zah (nfrz c ob xs r)]; exact r
      rcases hc with rfl | hc
      · exact hbe
      · rintro rfl
        rcases he with z | z
        · exact nown c b hc z
        · rw [hc] at z; cases z; exact hb rfl
end
structure Un (fs ex : List Addr) (H H' : Hp) (h h' : Heap) : Prop where
  keep : ∀ b o, h.get? b = some o → H b = none → b ∉ fs → b ∉ ex → h'.get? b = some o
  slot : ∀ b o, h.get? b = some o → H b = none → b ∈ fs → b ∉ ex → ∃ sl, h'.get? b = some { o with slots := sl }
  free : ∀ b o, h.get? b = some o → H b = none → b ∉ ex → H' b = none
  there : ∀ b o, h.get? b = some o → b ∉ ex → ∃ o', h'.get? b = some o'
  tups : ∀ b xs, H b = some (.tup xs) → H' b = some (.tup xs)
  frzs : ∀ b o u, H b = some (.frz o u) → H' b = some (.frz o u)
  tbls : ∀ b lp lq, H b = some (.tbl lp lq) → H' b = some (.tbl lp lq)
section
variable {fs fs' ex ex' : List Addr} {H H1 H2 : Hp} {h h1 h2 h' : Heap} {a x e : Addr} {o : HO}
theorem Un.any (u : Un fs ex H H1 h h1) {b : Addr} {ob : Obj} (q : h.get? b = some ob) (n : H b = none) (hx : b ∉ ex) : ∃ sl, h1.get? b = some { ob with slots := sl } := by
  by_cases hb : b ∈ fs
  · exact u.slot b ob q n hb hx
  · exact ⟨ob.slots, u.keep b ob q n hb hx⟩
theorem Un.kept (k : ∀ b u, h.get? b = some u → h'.get? b = some u) : Un fs ex H H h h' :=
  ⟨fun b ob q _ _ _ => k b ob q, fun b ob q _ _ _ => ⟨ob.slots, k b ob q⟩, fun _ _ _ n _ => n, fun b ob q _ => ⟨ob, k b ob q⟩, fun _ _ q => q, fun _ _ _ q => q, fun _ _ _ q => q⟩
theorem Un.refl : Un fs ex H H h h := Un.kept fun _ _ q => q
theorem Un.laid (k : ∀ b u, h.get? b = some u → h'.get? b = some u) (hp : h.objs.size ≤ a) (hn : H a = none) : Un fs ex H (upd H a o) h h' where
  keep := fun b u q _ _ _ => k b u q
  slot := fun b u q _ _ _ => ⟨u.slots, k b u q⟩
  free := fun b u q n _ => by rw [zah (Nat.ne_of_lt (Nat.lt_of_lt_of_le (Heap.lt_size q) hp))]; exact n
  there := fun b u q _ => ⟨u, k b u q⟩
  tups := fun b xs q => by rw [zah (zar q hn)]; exact q
  frzs := fun b u xs q => by rw [zah (zar q hn)]; exact q
  tbls := fun b lp lq q => by rw [zah (zar q hn)]; exact q
theorem Un.write (mu : Mut (H x)) (he : e = x ∨ H e = some (.own x)) (k : ∀ b u, b ≠ e → h.get? b = some u → h'.get? b = some u) (heo : ∃ u, h'.get? e = some u) : Un fs ex H (upd H x o) h h' := by
  have hx : ∀ b, H b = none → b ≠ x := fun b n z => by subst z; rw [n] at mu; exact mu
  have hb : ∀ b, H b = none → b ≠ e := fun b n z => by
    subst z
    rcases he with r | r
    · exact hx b n r
    · rw [n] at r; cases r
  have hm : ∀ b u, H b = some u → ¬ Mut (some u) → b ≠ x := fun b u q nm z => by subst z; rw [q] at mu; exact nm mu
  refine ⟨fun b u q n _ _ => k b u (hb b n) q, fun b u q n _ _ => ⟨u.slots, k b u (hb b n) q⟩, fun b u q n _ => by rw [zah (hx b n)]; exact n, fun b u q _ => ?_,
    fun b xs q => by rw [zah (hm b _ q fun z => z)]; exact q, fun b u xs q => by rw [zah (hm b _ q fun z => z)]; exact q, fun b lp lq q => by rw [zah (hm b _ q fun z => z)]; exact q⟩
  by_cases hbe : b = e
  · subst hbe; exact heo
  · exact ⟨u, k b u hbe q⟩
end
def trk (h : Heap) (H : Hp) : List Addr := (List.range h.objs.size).filter fun a => (H a).isSome
def hidT (h : Heap) (H : Hp) : Heap := PySem.W.hideAll h (trk h H)
theorem zij (h : Heap) (H : Hp) : (hidT h H).objs.size = h.objs.size := PySem.W.hideAll_size _ _
theorem zjC {h : Heap} {H : Hp} {b : Addr} {o : Obj} (e : h.get? b = some o) (n : H b = none) : (hidT h H).get? b = some o :=
  PySem.W.hideAll_get _ e fun hm => by
    have q : (H b).isSome = true := (List.mem_filter.mp hm).2
    rw [n] at q; simp at q
theorem zkZ {h : Heap} {H : Hp} {b : Addr} {o : Obj} (e : (hidT h H).get? b = some o) : h.get? b = some o ∧ H b = none := by
  have e' : h.get? b = some o := PySem.W.of_hideAll (trk h H) e
  refine ⟨e', ?_⟩
  cases q : H b with
  | none => rfl
  | some x =>
    have hm : b ∈ trk h H := List.mem_filter.mpr ⟨List.mem_range.mpr (Heap.lt_size e'), by simp [q]⟩
    have z : (hidT h H).get? b = none := PySem.W.hideAll_none (trk h H) hm
    rw [z] at e; cases e
def zk0 (g h : Heap) (L : Addr) : List (Addr × Obj) := (List.range h.objs.size).filterMap fun a => if a = L ∨ (g.get? a).isSome = true then none else (h.get? a).map fun o => (a, o)
def rest (g h : Heap) (L d : Addr) : List (Addr × Obj) := (zk0 g h L).filter fun p => decide (p.1 ≠ d)
end L2
namespace L2
open PySem PySem.Spec PyProof.Rows
structure Mod (K : PySem.W.Frag) (mg : Str → Option Value) (base : Heap) : Prop where
  kin : K.In base
  glob : base.Ns mainGlobals mg
  blt : ∃ mb, base.Ns builtinsNs mb ∧ ∀ x : Str, x ≠ "__name__" → mb x = bootBuiltins x
  nolimit : base.NoLimit
structure Cx where
  prog : Program
  w : World
  K : PySem.W.Frag
  mg : Str → Option Value
  base : Heap
  A : Around
  N : List Str
  s₀ : Shared
  H₀ : Hp
  env : Env
  outer : List Env
  stack : List Env
  ex : List Addr
  fn : Str → Bool
  calm : Bool
  pn : List (Addr × Obj)
  xe : Value → Shared → Prop
def frs (l : List Env) : List Addr := l.filterMap (·.frame)
abbrev Cx.fs (X : Cx) : List Addr := frs X.outer
def Vis (sc : Scope) (x : Str) : Prop := sc.names.lookup x = some .local ∨ sc.names.lookup x = some .cell ∨ sc.names.lookup x = some .free
def Loc (sc : Scope) (x : Str) : Prop := sc.names.lookup x = some .local ∨ sc.names.lookup x = some .cell
def Look (env : Env) (h : Heap) (m : Str → Option Value) (x : Str) (u : Value) : Prop :=
  (env.kindOf x = some .local ∧ m x = some u) ∨ ((env.kindOf x = some .cell ∨ env.kindOf x = some .free) ∧ ∃ c, env.cells.lookup x = some c ∧ h.IsCell c (some u))
structure Cx.Ok (X : Cx) : Prop where
  mod : Mod X.K X.mg X.base
  kind : X.env.scope.kind = .function
  glob : X.env.globals = mainGlobals
  blt : X.env.builtins = builtinsNs
  above : X.s₀.heap.objs.size ≤ X.env.locals
  inj : ∀ x y c, X.env.cells.lookup x = some c → X.env.cells.lookup y = some c → x = y
  has : ∀ x, (X.env.kindOf x = some .cell ∨ X.env.kindOf x = some .free) → ∃ c, X.env.cells.lookup x = some c
  cab : ∀ x c, X.fn x = true → X.env.cells.lookup x = some c → X.s₀.heap.objs.size ≤ c
  hd : X.calm = true → X.A.handled = none
  frames : X.A.frames = some X.stack
  stk : X.stack = X.outer ∨ (X.stack = X.env :: X.outer ∧ X.env.frame = some X.env.locals)
  exf : ∀ b ∈ X.ex, b ≠ X.env.locals ∧ ∀ x c, X.env.cells.lookup x = some c → c ≠ b
  bs : ∀ b o, X.base.get? b = some o → X.s₀.heap.get? b = some o ∧ X.H₀ b = none
  bsz : X.base.objs.size ≤ X.s₀.heap.objs.size
  noex : ∀ b o, X.base.get? b = some o → b ∉ X.ex
  exfs : ∀ b ∈ X.ex, b ∉ X.fs
  funs : X.s₀.heap.FunFrames X.base X.outer
  frf : ∀ b ∈ X.fs, X.H₀ b = none
structure Inv (X : Cx) (pins : List (Addr × Obj)) (σ : List (Option V)) (H : Hp) (s : Shared) : Prop where
  ok : X.Ok
  os : s.os = X.s₀.os
  bare : AllBare s.gens
  base : Un X.fs X.ex X.H₀ H X.s₀.heap s.heap
  loc : ∃ m, s.heap.Ns X.env.locals m ∧ ∀ (i : Nat) (x : Str) (v : V), X.N[i]? = some x → σ[i]? = some (some v) → Vis X.env.scope x → ∃ u, RelV v u ∧ Look X.env s.heap m x u
  cell : ∀ x c, X.env.cells.lookup x = some c → ∃ v, s.heap.IsCell c v
  free : H X.env.locals = none
  freeC : ∀ x c, X.env.cells.lookup x = some c → H c = none
  pin : ∀ p ∈ X.pn ++ pins, s.heap.get? p.1 = some p.2 ∧ H p.1 = none ∧ p.1 ≠ X.env.locals ∧ p.1 ∉ X.fs ∧ ∀ v, p.2.data ≠ .cell v
  hok : HOk X.prog X.w H s.heap
  len : σ.length = X.N.length
section
variable {X : Cx} {pins : List (Addr × Obj)} {σ : List (Option V)} {H H' : Hp} {s : Shared} {h' : Heap}
theorem Cx.Ok.nofr (ok : X.Ok) {b : Addr} {o : Obj} (e : X.base.get? b = some o) : b ∉ X.fs := fun hb => by
  have := (ok.funs.mem hb).1
  rw [e] at this; cases this
theorem Inv.bs (I : Inv X pins σ H s) : ∀ b o, X.base.get? b = some o → s.heap.get? b = some o ∧ H b = none := fun b o e =>
  ⟨I.base.keep b o (I.ok.bs b o e).1 (I.ok.bs b o e).2 (I.ok.nofr e) (I.ok.noex b o e), I.base.free b o (I.ok.bs b o e).1 (I.ok.bs b o e).2 (I.ok.noex b o e)⟩
theorem Inv.bk (I : Inv X pins σ H s) : ∀ b o, X.base.get? b = some o → s.heap.get? b = some o := fun b o e => (I.bs b o e).1
theorem Inv.mod (I : Inv X pins σ H s) : Mod X.K X.mg X.base := I.ok.mod
theorem Inv.kIn (I : Inv X pins σ H s) : X.K.In s.heap := I.ok.mod.kin.keeps I.bk
theorem Inv.nolimit (I : Inv X pins σ H s) : s.heap.NoLimit := I.ok.mod.nolimit.keeps I.bk
theorem Inv.lt (I : Inv X pins σ H s) : X.env.locals < s.heap.objs.size := let ⟨_, hn, _⟩ := I.loc; hn.lt
theorem Inv.sz (I : Inv X pins σ H s) : X.s₀.heap.objs.size ≤ s.heap.objs.size := Nat.le_trans I.ok.above (Nat.le_of_lt I.lt)
theorem Inv.nofs (I : Inv X pins σ H s) {a : Addr} (h : s.heap.objs.size ≤ a) : a ∉ X.fs := fun hb => by
  obtain ⟨_, o, ho, _⟩ := I.ok.funs.mem hb
  exact absurd (Nat.lt_of_lt_of_le (Heap.lt_size ho) (Nat.le_trans I.sz h)) (Nat.lt_irrefl _)
theorem Inv.cne (I : Inv X pins σ H s) : ∀ x c, X.env.cells.lookup x = some c → c ≠ X.env.locals := fun x c e z => by
  obtain ⟨v, o, ho, hd⟩ := I.cell x c e
  obtain ⟨m, ⟨o', es, ep, ho', hd', _⟩, _⟩ := I.loc
  rw [z, ho'] at ho; cases ho; rw [hd'] at hd; cases hd
theorem Inv.funs (I : Inv X pins σ H s) : s.heap.FunFrames X.base X.outer := by
  have all : ∀ (l : List Env), (∀ b ∈ frs l, b ∈ X.fs) → X.s₀.heap.FunFrames X.base l → s.heap.FunFrames X.base l := by
    intro l
    induction l with
    | nil => intro _ _; trivial
    | cons env r ih =>
      intro hs hl
      obtain ⟨hk, ⟨L, o, hf, hn, ho, hd⟩, hr⟩ := hl
      have hL : L ∈ X.fs := hs L (by unfold frs; rw [List.filterMap_cons, hf]; exact List.mem_cons_self)
      obtain ⟨sl, e⟩ := I.base.slot L o ho (I.ok.frf L hL) hL fun z => I.ok.exfs L z hL
      exact ⟨hk, ⟨L, _, hf, hn, e, hd⟩, ih (fun b hb => hs b (by unfold frs; rw [List.filterMap_cons, hf]; exact List.mem_cons_of_mem _ hb)) hr⟩
  exact all X.outer (fun _ hb => hb) I.ok.funs
theorem Inv.stack (I : Inv X pins σ H s) : s.heap.FunFrames X.base X.stack := by
  rcases I.ok.stk with e | ⟨e, hf⟩
  · rw [e]; exact I.funs
  · rw [e]
    obtain ⟨m, hn, _⟩ := I.loc
    refine .cons (by rw [I.ok.kind]; decide) hf hn ?_ I.funs
    exact Heap.get?_none_of_le (Nat.le_trans I.ok.bsz I.ok.above)
theorem Inv.stkSub (I : Inv X pins σ H s) : ∀ b ∈ frs X.stack, b ∈ X.env.locals :: X.fs := fun b hb => by
  rcases I.ok.stk with e | ⟨e, hf⟩
  · rw [e] at hb; exact List.mem_cons_of_mem _ hb
  · rw [e] at hb
    unfold frs at hb
    rw [List.filterMap_cons, hf] at hb
    exact hb
theorem Inv.stkFree (I : Inv X pins σ H s) : ∀ b ∈ frs X.stack, H b = none := fun b hb => by
  rcases List.mem_cons.mp (I.stkSub b hb) with e | hb
  · rw [e]; exact I.free
  · obtain ⟨_, o, ho, _⟩ := I.ok.funs.mem hb
    exact I.base.free b o ho (I.ok.frf b hb) fun z => I.ok.exfs b z hb
theorem Inv.step {g' : Array GenState} {t' : Nat} {d' : Drawn} {ch : List Addr} (I : Inv X pins σ H s)
    (hch : ∀ b ∈ ch, (b ∈ X.ex ∨ X.s₀.heap.objs.size ≤ b) ∧ b ≠ X.env.locals ∧ (∀ x c, X.env.cells.lookup x = some c → c ≠ b) ∧ ∀ p ∈ X.pn ++ pins, p.1 ≠ b)
    (keep : ∀ b o, b ≠ X.env.locals → b ∉ X.fs → b ∉ ch → s.heap.get? b = some o → H b = none → h'.get? b = some o)
    (slot : ∀ b o, b ≠ X.env.locals → b ∈ X.fs → b ∉ ch → s.heap.get? b = some o → H b = none → ∃ sl, h'.get? b = some { o with slots := sl }) (free : ∀ b o, b ∉ ch → s.heap.get? b = some o → H b = none → H' b = none)
    (there : ∀ b o, b ∉ ch → s.heap.get? b = some o → ∃ o', h'.get? b = some o')
    (tups : ∀ b xs, H b = some (.tup xs) → H' b = some (.tup xs)) (frzs : ∀ b o u, H b = some (.frz o u) → H' b = some (.frz o u)) (tbls : ∀ b lp lq, H b = some (.tbl lp lq) → H' b = some (.tbl lp lq))
    (ns : ∀ m, s.heap.Ns X.env.locals m → h'.Ns X.env.locals m) (hok : HOk X.prog X.w H' h') (hg : AllBare g') :
    Inv X pins σ H' { s with heap := h', gens := g', drawn := d', toks := t' } := by
  have neL : ∀ b o, X.s₀.heap.get? b = some o → b ≠ X.env.locals := fun b o e => Nat.ne_of_lt (Nat.lt_of_lt_of_le (Heap.lt_size e) I.ok.above)
  have neC : ∀ b o, X.s₀.heap.get? b = some o → b ∉ X.ex → b ∉ ch := fun b o e hx hb => by
    rcases (hch b hb).1 with z | z
    · exact hx z
    · exact absurd (Nat.lt_of_lt_of_le (Heap.lt_size e) z) (Nat.lt_irrefl _)
  have cellK : ∀ x c, X.env.cells.lookup x = some c → ∀ v, s.heap.IsCell c v → h'.IsCell c v := fun x c e v ⟨o, ho, hd⟩ => by
    have nch : c ∉ ch := fun z => (hch c z).2.2.1 x c e rfl
    by_cases hc : c ∈ X.fs
    · obtain ⟨sl, q⟩ := slot c o (I.cne x c e) hc nch ho (I.freeC x c e)
      exact ⟨_, q, hd⟩
    · exact ⟨o, keep c o (I.cne x c e) hc nch ho (I.freeC x c e), hd⟩
  refine ⟨I.ok, I.os, hg, ⟨fun b o e n hb hx => ?_, fun b o e n hb hx => ?_, fun b o e n hx => ?_, fun b o e hx => ?_, fun b xs e => tups b xs (I.base.tups b xs e), fun b o xs e => frzs b o xs (I.base.frzs b o xs e), fun b lp lq e => tbls b lp lq (I.base.tbls b lp lq e)⟩, ?_, fun x c e => ?_, ?_, fun x c e => ?_, fun p hp => ?_, hok, I.len⟩
  · exact keep b o (neL b o e) hb (neC b o e hx) (I.base.keep b o e n hb hx) (I.base.free b o e n hx)
  · obtain ⟨sl, e1⟩ := I.base.slot b o e n hb hx
    obtain ⟨sl', e2⟩ := slot b _ (neL b o e) hb (neC b o e hx) e1 (I.base.free b o e n hx)
    exact ⟨sl', e2⟩
  · obtain ⟨o', e1⟩ := I.base.there b o e hx
    exact free b o' (neC b o e hx) e1 (I.base.free b o e n hx)
  · obtain ⟨o', e1⟩ := I.base.there b o e hx
    exact there b o' (neC b o e hx) e1
  · obtain ⟨m, hn, hl⟩ := I.loc
    refine ⟨m, ns m hn, fun i x v e1 e2 e3 => ?_⟩
    obtain ⟨u, r, l⟩ := hl i x v e1 e2 e3
    refine ⟨u, r, ?_⟩
    rcases l with l | ⟨k, c, e, z⟩
    · exact .inl l
    · exact .inr ⟨k, c, e, cellK x c e _ z⟩
  · obtain ⟨v, z⟩ := I.cell x c e
    exact ⟨v, cellK x c e v z⟩
  · obtain ⟨m, ⟨o, _, _, ho, _⟩, _⟩ := I.loc
    exact free _ o (fun z => (hch _ z).2.1 rfl) ho I.free
  · obtain ⟨v, o, ho, hd⟩ := I.cell x c e
    exact free c o (fun z => (hch c z).2.2.1 x c e rfl) ho (I.freeC x c e)
  · obtain ⟨e, n, ne, nf, d⟩ := I.pin p hp
    have nch : p.1 ∉ ch := fun z => (hch p.1 z).2.2.2 p hp rfl
    exact ⟨keep p.1 p.2 ne nf nch e n, free p.1 p.2 nch e n, ne, nf, d⟩
theorem Inv.un {t' : Nat} (I : Inv X pins σ H s) (u : Un X.fs [] H H' s.heap h') (hok : HOk X.prog X.w H' h') : Inv X pins σ H' { s with heap := h', toks := t' } := by
  obtain ⟨m, ⟨o, es, ep, ho, r⟩, _⟩ := id I.loc
  obtain ⟨sl, hL⟩ := u.any ho I.free (by simp)
  exact I.step (g' := s.gens) (d' := s.drawn) (ch := []) (fun _ z => nomatch z) (fun b o _ hb _ e n => u.keep b o e n hb (by simp)) (fun b o _ hb _ e n => u.slot b o e n hb (by simp)) (fun b o _ e n => u.free b o e n (by simp)) (fun b o _ e => u.there b o e (by simp)) u.tups u.frzs u.tbls (fun m' hm => by
    obtain ⟨o', es', ep', ho', r'⟩ := hm
    rw [ho] at ho'; cases ho'
    exact ⟨_, es', ep', hL, r'⟩) hok I.bare
theorem Inv.call {g' : Array GenState} {t' : Nat} {d' : Drawn} {ch : List Addr} (I : Inv X pins σ H s) (u : Un (frs X.stack) ch H H' s.heap h') (hok : HOk X.prog X.w H' h') (hg : AllBare g')
    (hch : ∀ b ∈ ch, (b ∈ X.ex ∨ X.s₀.heap.objs.size ≤ b) ∧ b ≠ X.env.locals ∧ (∀ x c, X.env.cells.lookup x = some c → c ≠ b) ∧ ∀ p ∈ X.pn ++ pins, p.1 ≠ b) :
    Inv X pins σ H' { s with heap := h', gens := g', drawn := d', toks := t' } := by
  obtain ⟨m, ⟨o, es, ep, ho, r⟩, _⟩ := id I.loc
  obtain ⟨sl, hL⟩ := u.any ho I.free fun z => (hch _ z).2.1 rfl
  exact I.step (ch := ch) hch (fun b o hL hb hc e n => u.keep b o e n (fun z => (List.mem_cons.mp (I.stkSub b z)).elim hL hb) hc) (fun b o _ _ hc e n => u.any e n hc) (fun b o hc e n => u.free b o e n hc) (fun b o hc e => u.there b o e hc) u.tups u.frzs u.tbls (fun m' hm => by
    obtain ⟨o', es', ep', ho', r'⟩ := hm
    rw [ho] at ho'; cases ho'
    exact ⟨_, es', ep', hL, r'⟩) hok hg
theorem Inv.turned {t' : Nat} {it : Addr} (I : Inv X pins σ H s) (k : ∀ b o, b ≠ it → s.heap.get? b = some o → h'.get? b = some o) (hn : H it = none) (hL : it ≠ X.env.locals)
    (h1 : it ∈ X.ex ∨ X.s₀.heap.objs.size ≤ it) (h2 : ∀ x c, X.env.cells.lookup x = some c → c ≠ it) (h3 : ∀ p ∈ X.pn ++ pins, p.1 ≠ it) : Inv X pins σ H { s with heap := h', toks := t' } := by
  have nit : ∀ b u, H b = some u → b ≠ it := fun b u e z => by rw [z, hn] at e; cases e
  refine I.step (g' := s.gens) (d' := s.drawn) (ch := [it]) (fun b hb => ?_) (fun b o _ _ hc e _ => k b o (fun z => hc (by simp [z])) e) (fun b o _ _ hc e _ => ⟨o.slots, k b o (fun z => hc (by simp [z])) e⟩) (fun _ _ _ _ n => n)
    (fun b o hc e => ⟨o, k b o (fun z => hc (by simp [z])) e⟩) (fun _ _ e => e) (fun _ _ _ e => e) (fun _ _ _ e => e) (fun m hm => ?_) (fun b u e => ?_) I.bare
  · have e : b = it := by simpa using hb
    subst e
    exact ⟨h1, hL, h2, h3⟩
  · obtain ⟨o, es, ep, ho, r⟩ := hm
    exact ⟨o, es, ep, k _ o (Ne.symm hL) ho, r⟩
  · refine (I.hok b u e).stay (fun c v hc q => k c v ?_ q) (fun _ q => q) (fun _ _ q => q) fun _ _ _ q => q
    rcases hc with z | z
    · rw [z]; exact nit b u e
    · exact nit c _ z
theorem Inv.tok (I : Inv X pins σ H s) (t : Nat) : Inv X pins σ H { s with toks := t } := I.un (h' := s.heap) (t' := t) Un.refl I.hok
theorem Inv.kept {t' : Nat} (I : Inv X pins σ H s) (k : ∀ b u, s.heap.get? b = some u → h'.get? b = some u) : Inv X pins σ H { s with heap := h', toks := t' } := I.un (Un.kept k) (I.hok.kept k)
theorem Inv.laid {a : Addr} {o : HO} {t' : Nat} (I : Inv X pins σ H s) (k : ∀ b u, s.heap.get? b = some u → h'.get? b = some u) (hp : s.heap.objs.size ≤ a) (new : zbr X.prog X.w (upd H a o) h' a o) :
    Inv X pins σ (upd H a o) { s with heap := h', toks := t' } := I.un (Un.laid k hp (I.hok.fresh hp)) (I.hok.laid k hp new)
theorem Inv.write {x e : Addr} {o : HO} {t' : Nat} (I : Inv X pins σ H s) (mu : Mut (H x)) (he : e = x ∨ H e = some (.own x)) (k : ∀ b u, b ≠ e → s.heap.get? b = some u → h'.get? b = some u) (heo : ∃ u, h'.get? e = some u)
    (new : zbr X.prog X.w (upd H x o) h' x o) : Inv X pins σ (upd H x o) { s with heap := h', toks := t' } := I.un (Un.write mu he k heo) (I.hok.write mu he k heo new)
theorem Inv.pins_of {pins' : List (Addr × Obj)} (I : Inv X pins σ H s) (h : ∀ p ∈ pins', s.heap.get? p.1 = some p.2 ∧ H p.1 = none ∧ p.1 ≠ X.env.locals ∧ p.1 ∉ X.fs ∧ ∀ v, p.2.data ≠ .cell v) : Inv X pins' σ H s :=
  ⟨I.ok, I.os, I.bare, I.base, I.loc, I.cell, I.free, I.freeC, fun p hp => (List.mem_append.mp hp).elim (fun z => I.pin p (List.mem_append_left _ z)) (h p), I.hok, I.len⟩
theorem zg5 {N : List Str} (hN : N.Nodup) {i j : Nat} {x : Str} (a : N[i]? = some x) (b : N[j]? = some x) : i = j := by
  obtain ⟨h1, e1⟩ := List.getElem?_eq_some_iff.mp a
  obtain ⟨h2, e2⟩ := List.getElem?_eq_some_iff.mp b
  exact (List.getElem_inj hN).mp (e1.trans e2.symm)
theorem zem {M : Model} {A : Around} {E : Value → Shared → Prop} {i : Nat} {x : Str} {v : V} {u : Value} {Q : Unit → Shared → Prop} (I : Inv X pins σ H s) (hN : X.N.Nodup) (hi : X.N[i]? = some x) (hx : Loc X.env.scope x) (r : RelV v u)
    (h : ∀ s', Inv X pins (σ.set i (some v)) H s' → (∃ a, Heap.SameBut a s.heap s'.heap ∧ (a = X.env.locals ∨ X.env.cells.lookup x = some a)) → Q () s') (hf : X.fn x = true ∨ X.env.scope.names.lookup x = some .local := by first | exact .inl rfl | exact .inr rfl | assumption) : wpAny M A (storeName X.env x u) Q E s := by
  obtain ⟨m, hn, hl⟩ := id I.loc
  have hcls : (X.env.scope.kind == .class || (X.env.scope.kind == .module && X.env.locals != X.env.globals)) = false := by rw [I.ok.kind]; rfl
  have hiσ : i < σ.length := by rw [I.len]; exact (List.getElem?_eq_some_iff.mp hi).1
  have cne := I.cne
  have tracked : ∀ {a : Addr} {h' : Heap}, (∃ o, s.heap.get? a = some o ∧ H a = none) → Heap.SameBut a s.heap h' → HOk X.prog X.w H h' := fun {a h'} ha hs b ob e => by
    obtain ⟨_, _, hfree⟩ := ha
    refine (I.hok b ob e).stay (fun c w' hc q => (hs.2 c ?_).trans q) (fun _ q => q) (fun _ _ q => q) fun _ _ _ q => q
    rintro rfl
    rcases hc with rfl | hc
    · rw [hfree] at e; cases e
    · rw [hfree] at hc; cases hc
  rcases hx with hk | hk
  · refine wpAny_storeName_local hk hn (fun h' hn' hs => ?_) hcls
    obtain ⟨oL, _, _, hoL, _⟩ := id hn
    refine h _ ⟨I.ok, I.os, I.bare, ⟨fun b o e n hb hx => ?_, fun b o e n hb hx => ?_, I.base.free, fun b o e hx => ?_, I.base.tups, I.base.frzs, I.base.tbls⟩, ⟨_, hn', fun j y v' e1 e2 e3 => ?_⟩, fun y c e => ?_, I.free, I.freeC, fun p hp => ?_, tracked ⟨oL, hoL, I.free⟩ hs, by simpa using I.len⟩ ⟨_, hs, .inl rfl⟩
    · exact (hs.2 b (Nat.ne_of_lt (Nat.lt_of_lt_of_le (Heap.lt_size e) I.ok.above))).trans (I.base.keep b o e n hb hx)
    · obtain ⟨sl, e1⟩ := I.base.slot b o e n hb hx
      exact ⟨sl, (hs.2 b (Nat.ne_of_lt (Nat.lt_of_lt_of_le (Heap.lt_size e) I.ok.above))).trans e1⟩
    · obtain ⟨o', e1⟩ := I.base.there b o e hx
      exact ⟨o', (hs.2 b (Nat.ne_of_lt (Nat.lt_of_lt_of_le (Heap.lt_size e) I.ok.above))).trans e1⟩
    · by_cases hj : j = i
      · subst hj
        rw [hi] at e1; cases e1
        rw [List.getElem?_set_self hiσ] at e2
        cases e2
        exact ⟨u, r, .inl ⟨hk, by simp⟩⟩
      · rw [List.getElem?_set_ne (Ne.symm hj)] at e2
        obtain ⟨u', r', q⟩ := hl j y v' e1 e2 e3
        refine ⟨u', r', ?_⟩
        rcases q with ⟨k, e⟩ | ⟨k, c, e, z⟩
        · refine .inl ⟨k, ?_⟩
          have : y ≠ x := fun e => hj (zg5 hN e1 (e ▸ hi))
          simp [this, e]
        · exact .inr ⟨k, c, e, z.sameBut hs (cne y c e)⟩
    · obtain ⟨w', z⟩ := I.cell y c e
      exact ⟨w', z.sameBut hs (cne y c e)⟩
    · obtain ⟨e, n, ne, nf, d⟩ := I.pin p hp
      exact ⟨(hs.2 p.1 ne).trans e, n, ne, nf, d⟩
  · have hfn : X.fn x = true := by
      rcases hf with z | z
      · exact z
      · rw [z] at hk; cases hk
    obtain ⟨c, hc⟩ := I.ok.has x (.inl hk)
    obtain ⟨w', z⟩ := I.cell x c hc
    refine wpAny_storeName_cell I.ok.kind hk hc z (fun h' hc' hs => ?_)
    obtain ⟨oc, hoc, hocd⟩ := id z
    refine h { s with heap := h' } ⟨I.ok, I.os, I.bare, ⟨fun b o e n hb hx => ?_, fun b o e n hb hx => ?_, I.base.free, fun b o e hx => ?_, I.base.tups, I.base.frzs, I.base.tbls⟩, ⟨m, hn.sameBut hs (Ne.symm (cne x c hc)), fun j y v' e1 e2 e3 => ?_⟩, fun y c' e => ?_, I.free, I.freeC, fun p hp => ?_, tracked ⟨oc, hoc, I.freeC x c hc⟩ hs, by simpa using I.len⟩ ⟨c, hs, .inr hc⟩
    · exact (hs.2 b (Nat.ne_of_lt (Nat.lt_of_lt_of_le (Heap.lt_size e) (I.ok.cab x c hfn hc)))).trans (I.base.keep b o e n hb hx)
    · obtain ⟨sl, e1⟩ := I.base.slot b o e n hb hx
      exact ⟨sl, (hs.2 b (Nat.ne_of_lt (Nat.lt_of_lt_of_le (Heap.lt_size e) (I.ok.cab x c hfn hc)))).trans e1⟩
    · obtain ⟨o', e1⟩ := I.base.there b o e hx
      exact ⟨o', (hs.2 b (Nat.ne_of_lt (Nat.lt_of_lt_of_le (Heap.lt_size e) (I.ok.cab x c hfn hc)))).trans e1⟩
    · by_cases hj : j = i
      · subst hj
        rw [hi] at e1; cases e1
        rw [List.getElem?_set_self hiσ] at e2
        cases e2
        exact ⟨u, r, .inr ⟨.inl hk, c, hc, hc'⟩⟩
      · rw [List.getElem?_set_ne (Ne.symm hj)] at e2
        obtain ⟨u', r', q⟩ := hl j y v' e1 e2 e3
        refine ⟨u', r', ?_⟩
        rcases q with q | ⟨k, c', e, z'⟩
        · exact .inl q
        · refine .inr ⟨k, c', e, z'.sameBut hs ?_⟩
          rintro rfl
          exact hj (zg5 hN e1 (I.ok.inj _ _ _ e hc ▸ hi))
    · by_cases hcc : c' = c
      · subst hcc; exact ⟨_, hc'⟩
      · obtain ⟨w2, z2⟩ := I.cell y c' e
        exact ⟨w2, z2.sameBut hs hcc⟩
    · obtain ⟨e, n, ne, nf, d⟩ := I.pin p hp
      refine ⟨(hs.2 p.1 ?_).trans e, n, ne, nf, d⟩
      intro q
      rw [q, hoc] at e
      have q' : oc = p.2 := Option.some.inj e
      exact d w' (by rw [← q']; exact hocd)
theorem zff {M : Model} {A : Around} {E : Value → Shared → Prop} {i : Nat} {x : Str} {v : V} {u : Value} {Q : Unit → Shared → Prop} (I : Inv X pins σ H s) (hN : X.N.Nodup) (hi : X.N[i]? = some x) (hx : Loc X.env.scope x) (r : RelV v u)
    (h : ∀ s', Inv X pins (σ.set i (some v)) H s' → Q () s') (hf : X.fn x = true ∨ X.env.scope.names.lookup x = some .local := by first | exact .inl rfl | exact .inr rfl | assumption) : wpAny M A (storeName X.env x u) Q E s :=
  zem I hN hi hx r (fun s' I' _ => h s' I') hf
theorem Inv.call' {s' : Shared} {ch : List Addr} (I : Inv X pins σ H s) (ho : s'.os = s.os) (u : Un (frs X.stack) ch H H' s.heap s'.heap) (hok : HOk X.prog X.w H' s'.heap) (hg : AllBare s'.gens)
    (hch : ∀ b ∈ ch, (b ∈ X.ex ∨ X.s₀.heap.objs.size ≤ b) ∧ b ≠ X.env.locals ∧ (∀ x c, X.env.cells.lookup x = some c → c ≠ b) ∧ ∀ p ∈ X.pn ++ pins, p.1 ≠ b) : Inv X pins σ H' s' := by
  obtain ⟨h', g', d', t', o'⟩ := s'
  have e : o' = s.os := ho
  subst e
  exact I.call (g' := g') (t' := t') (d' := d') u hok hg hch
end
abbrev XK := Value → Option Addr → Hp → Prop
abbrev St := List (Option V)
abbrev VK := V → Hp → Prop
abbrev TE := St → Hp → VK → Prop
abbrev TT := St → Hp → (Bool → Hp → Prop) → Prop
abbrev TA := St → Hp → (List V → Hp → Prop) → Prop
structure Ends where
  nx : St → Hp → Prop
  rt : VK
  bk : St → Hp → Prop := fun _ _ => False
  ct : St → Hp → Prop := fun _ _ => False
abbrev TS := Ends → St → Hp → Prop
def EP (X : Cx) (pins : List (Addr × Obj)) (σ : St) (Q : VK) (u : Value) (s' : Shared) : Prop := ∃ v H', Inv X pins σ H' s' ∧ RelV v u ∧ Q v H'
def TP (X : Cx) (pins : List (Addr × Obj)) (σ : St) (Q : Bool → Hp → Prop) (b : Bool) (s' : Shared) : Prop := ∃ H', Inv X pins σ H' s' ∧ Q b H'
def AP (X : Cx) (pins : List (Addr × Obj)) (σ : St) (Q : List V → Hp → Prop) (us : List Value) (s' : Shared) : Prop := ∃ vs H', Inv X pins σ H' s' ∧ Vals vs us ∧ Q vs H'
def SP (X : Cx) (pins : List (Addr × Obj)) (D : Ends) (f : Flow) (s' : Shared) : Prop :=
  match f with
  | .next => ∃ σ' H', Inv X pins σ' H' s' ∧ D.nx σ' H'
  | .brk => ∃ σ' H', Inv X pins σ' H' s' ∧ D.bk σ' H'
  | .cont => ∃ σ' H', Inv X pins σ' H' s' ∧ D.ct σ' H'
  | .ret u => ∃ v σ' H', Inv X pins σ' H' s' ∧ RelV v u ∧ D.rt v H'
@[irreducible] def PE (X : Cx) (e : Expr) (t : TE) : Prop :=
  ∀ (pins : List (Addr × Obj)) (s : Shared) (σ : St) (H : Hp) (Q : VK), Inv X pins σ H s → t σ H Q → wpAny (model X.prog X.w) X.A (eval e X.env) (EP X pins σ Q) X.xe s
@[irreducible] def PT (X : Cx) (e : Expr) (t : TT) : Prop :=
  ∀ (pins : List (Addr × Obj)) (s : Shared) (σ : St) (H : Hp) (Q : Bool → Hp → Prop), Inv X pins σ H s → t σ H Q → wpAny (model X.prog X.w) X.A (isTrue e X.env (eval e X.env)) (TP X pins σ Q) X.xe s
def PW (X : Cx) (e : Expr) (t : TT) : Prop :=
  ∀ (whole : Sem Value) (pins : List (Addr × Obj)) (s : Shared) (σ : St) (H : Hp) (Q : Bool → Hp → Prop), Inv X pins σ H s → t σ H Q → wpAny (model X.prog X.w) X.A (isTrue e X.env whole) (TP X pins σ Q) X.xe s
theorem PW.pt {X : Cx} {e : Expr} {t : TT} (h : PW X e t) : PT X e t := by
  with_unfolding_all
    exact h _
@[irreducible] def PA (X : Cx) (es : List Expr) (t : TA) : Prop :=
  ∀ (pos : Pos) (pins : List (Addr × Obj)) (s : Shared) (σ : St) (H : Hp) (Q : List V → Hp → Prop), Inv X pins σ H s → t σ H Q → wpAny (model X.prog X.w) X.A (spliced (backTo pos (starEach es X.env))) (AP X pins σ Q) X.xe s
@[irreducible] def PS (X : Cx) (st : Stmt) (t : TS) : Prop :=
  ∀ (pins : List (Addr × Obj)) (s : Shared) (σ : St) (H : Hp) (D : Ends), Inv X pins σ H s → t D σ H → wpAny (model X.prog X.w) X.A (exec st X.env) (SP X pins D) X.xe s
@[irreducible] def PSs (X : Cx) (st : List Stmt) (t : TS) : Prop :=
  ∀ (pins : List (Addr × Obj)) (s : Shared) (σ : St) (H : Hp) (D : Ends), Inv X pins σ H s → t D σ H → wpAny (model X.prog X.w) X.A (execs st X.env) (SP X pins D) X.xe s
theorem thn {α : Type} {t : Sem α} {Q Q' : α → Shared → Prop} {M : Model} {A : Around} {E : Value → Shared → Prop} {s : Shared} (h : wpAny M A t Q E s) (hQ : ∀ a s, Q a s → Q' a s) : wpAny M A t Q' E s := wpAny_mono h hQ fun _ _ x => x
end L2
namespace L2
open PySem PySem.Spec PyProof.Rows
section
variable {X : Cx}
def tVar (i : Nat) : TE := fun σ H Q => ∃ v, σ[i]? = some (some v) ∧ Q v H
def tC (v : V) : TE := fun _ H Q => Q v H
theorem zik {i : Nat} {x : Str} {pos : Pos} (hN : X.N[i]? = some x) (hv : Vis X.env.scope x) (hd : (x == ("__debug__" : Str)) = false := by decide) (hcd : (x == ("__classdict__" : Str)) = false := by decide) : PE X (.Name x pos) (tVar i) := by
  with_unfolding_all
    intro pins s σ H Q I h
    obtain ⟨v, e, h⟩ := h
    obtain ⟨m, hn, hl⟩ := I.loc
    obtain ⟨u, r, l⟩ := hl i x v hN e hv
    have fin : EP X pins σ Q u s := ⟨v, H, I, r, h⟩
    rcases l with ⟨hk, hm⟩ | ⟨hk, c, hc, hcell⟩
    · exact wpAny_Name (wpAny_loadName_local I.ok.kind hk hn hm fin) hd
    · rcases hk with hk | hk
      · exact wpAny_Name (wpAny_loadName_cell I.ok.kind hk hc hcell fin) hd
      · exact wpAny_Name (wpAny_loadName_free I.ok.kind hk hc hcell fin hcd) hd
theorem zab {i j pos} : PE X (.Constant (.int i) j pos) (tC (.int i)) := by
  with_unfolding_all
    exact fun _ _ _ H _ I h => wpAny_Constant_int ⟨.int i, H, I.tok _, ⟨_, rfl⟩, h⟩
theorem zcz {b j pos} : PE X (.Constant (.bool b) j pos) (tC (.bl b)) := by
  with_unfolding_all
    exact fun _ _ _ H _ I h => Constant_bool ⟨.bl b, H, I, rfl, h⟩
theorem zcT {j pos} : PE X (.Constant .none j pos) (tC .non) := by
  with_unfolding_all
    exact fun _ _ _ H _ I h => Constant_none ⟨.non, H, I, rfl, h⟩
theorem zkr {x j pos} : PE X (.Constant (.str x) j pos) (tC (.str x)) := by
  with_unfolding_all
    exact fun _ _ _ H _ I h => Calls.Constant_str ⟨.str x, H, I.tok _, ⟨_, rfl⟩, h⟩
def Gl (X : Cx) (x : Str) : Prop := X.env.kindOf x = some .globalImplicit
theorem zil {E : Value → Shared → Prop} {pins : List (Addr × Obj)} {s : Shared} {σ : St} {H : Hp} {x : Str} {u : Value} {pos : Pos} {Q : Value → Shared → Prop} (I : Inv X pins σ H s) (hg : Gl X x) (hm : X.mg x = some u) (h : Q u s)
    (hd : (x == ("__debug__" : Str)) = false := by decide) : wpAny (model X.prog X.w) X.A (eval (.Name x pos) X.env) Q E s :=
  Calls.Name_function_global I.ok.kind hg (Calls.loadGlobal_global (by rw [I.ok.glob]; exact I.mod.glob.keeps I.bk) hm h) hd
theorem zd2 {E : Value → Shared → Prop} {pins : List (Addr × Obj)} {s : Shared} {σ : St} {H : Hp} {x : Str} {u : Value} {pos : Pos} {Q : Value → Shared → Prop} (I : Inv X pins σ H s) (hg : Gl X x) (hm : X.mg x = none) (hv : bootBuiltins x = some u) (h : Q u s)
    (hn : x ≠ "__name__" := by decide) (hd : (x == ("__debug__" : Str)) = false := by decide) : wpAny (model X.prog X.w) X.A (eval (.Name x pos) X.env) Q E s := by
  obtain ⟨mb, h1, h2⟩ := I.mod.blt
  exact Calls.Name_function_global I.ok.kind hg (Calls.loadGlobal_builtin (by rw [I.ok.glob]; exact I.mod.glob.keeps I.bk) hm (by rw [I.ok.blt]; exact h1.keeps I.bk) ((h2 x hn).trans hv) h) hd
theorem zch {x : Str} {v : V} {u : Value} {pos : Pos} (hg : Gl X x) (hm : X.mg x = none) (hv : bootBuiltins x = some u) (r : RelV v u) (hn : x ≠ "__name__" := by decide) (hd : (x == ("__debug__" : Str)) = false := by decide) : PE X (.Name x pos) (tC v) := by
  with_unfolding_all
    exact fun _ _ _ H _ I h => zd2 I hg hm hv ⟨v, H, I, r, h⟩ hn hd
variable {a b : Expr} {ta tb : TE} {pos : Pos}
def tB (t : TE) : TT := fun σ H Q => t σ H fun x H1 => ∃ c, x = .bl c ∧ Q c H1
theorem zbI {e : Expr} {t : TE} (h : PE X e t) (he : ∀ whole, isTrue e X.env whole = (do let v ← whole; standAt e.pos; holding [v] (truthy v)) := by intro _; rfl) : PT X e (tB t) := by
  with_unfolding_all
    intro pins s σ H Q I hw
    refine isTrue_plain (thn (h pins s σ H _ I hw) fun v s1 ⟨x, H1, I1, r1, q1⟩ => ?_) (he _)
    obtain ⟨d, rfl, q⟩ := q1
    cases r1
    exact wpAny_truthy_bool ⟨H1, I1, q⟩
variable {tA tB' : TT} {rest : List Expr}
def tAnd (t u : TT) : TT := fun σ H Q => t σ H fun c H1 => if c = true then u σ H1 Q else Q false H1
def tOr (t u : TT) : TT := fun σ H Q => t σ H fun c H1 => if c = true then Q true H1 else u σ H1 Q
def tNot (t : TT) : TT := fun σ H Q => t σ H fun c H1 => Q (!c) H1
theorem zen (ha : PT X a tA) : PW X (.BoolOp .And [a] pos) tA := by
  with_unfolding_all
    intro wh pins s σ H Q I h
    refine isTrue_and (thn (ha pins s σ H Q I h) fun c s1 e => ?_)
    cases c with
    | true => exact isTrue_and_nil e
    | false => exact e
theorem zdA (ha : PT X a tA) : PW X (.BoolOp .Or [a] pos) tA := by
  with_unfolding_all
    intro wh pins s σ H Q I h
    refine isTrue_or (thn (ha pins s σ H Q I h) fun c s1 e => ?_)
    cases c with
    | false => exact isTrue_or_nil e
    | true => exact e
theorem zfD (ha : PT X a tA) (hb : PW X (.BoolOp .And (b :: rest) pos) tB') : PW X (.BoolOp .And (a :: b :: rest) pos) (tAnd tA tB') := by
  with_unfolding_all
    intro wh pins s σ H Q I h
    refine isTrue_and (thn (ha pins s σ H _ I h) fun c s1 ⟨H1, I1, q1⟩ => ?_)
    cases c with
    | true => exact hb wh pins s1 σ H1 Q I1 q1
    | false => exact ⟨H1, I1, q1⟩
theorem zdB (ha : PT X a tA) (hb : PW X (.BoolOp .Or (b :: rest) pos) tB') : PW X (.BoolOp .Or (a :: b :: rest) pos) (tOr tA tB') := by
  with_unfolding_all
    intro wh pins s σ H Q I h
    refine isTrue_or (thn (ha pins s σ H _ I h) fun c s1 ⟨H1, I1, q1⟩ => ?_)
    cases c with
    | true => exact ⟨H1, I1, q1⟩
    | false => exact hb wh pins s1 σ H1 Q I1 q1
theorem zbK (ha : PT X a tA) : PT X (.UnaryOp .Not a pos) (tNot tA) := by
  with_unfolding_all
    intro pins s σ H Q I h
    exact isTrue_not (ha pins s σ H (fun c H1 => Q (!c) H1) I h)
def zmM (ta tb : TE) : TE := fun σ H Q => ta σ H fun x H1 => ∃ c, x = .bl c ∧ if c = true then tb σ H1 Q else Q (.bl false) H1
def zmN (ta : TE) : TE := fun σ H Q => ta σ H fun x H1 => ∃ c, x = .bl c ∧ Q (.bl (!c)) H1
theorem zg6 {op} {t : TE} (h : PE X a t) : PE X (.BoolOp op [a] pos) t := by
  with_unfolding_all
    exact fun pins s σ H Q I hw => BoolOp_one (h pins s σ H Q I hw)
theorem zg7 (ha : PE X a ta) (hb : PE X (.BoolOp .And (b :: rest) pos) tb) : PE X (.BoolOp .And (a :: b :: rest) pos) (zmM ta tb) := by
  with_unfolding_all
    intro pins s σ H Q I h
    refine BoolOp_and (thn (ha pins s σ H _ I h) fun v s1 ⟨x, H1, I1, r1, q1⟩ => ?_)
    obtain ⟨c, rfl, q1⟩ := q1
    cases r1
    refine wpAny_truthy_bool ?_
    cases c with
    | true => exact hb pins s1 σ H1 Q I1 q1
    | false => exact ⟨.bl false, H1, I1, rfl, q1⟩
theorem zks (ha : PE X a ta) : PE X (.UnaryOp .Not a pos) (zmN ta) := by
  with_unfolding_all
    intro pins s σ H Q I h
    refine UnaryOp_ (thn (ha pins s σ H _ I h) fun v s1 ⟨x, H1, I1, r1, q1⟩ => ?_)
    obtain ⟨c, rfl, q1⟩ := q1
    cases r1
    exact not_of (wpAny_truthy_bool ⟨.bl (!c), H1, I1, rfl, q1⟩)
def tIf (t : TT) (ta tb : TE) : TE := fun σ H Q => t σ H fun c H1 => if c = true then ta σ H1 Q else tb σ H1 Q
theorem zjD {c : Expr} (hc : PT X c tA) (ha : PE X a ta) (hb : PE X b tb) : PE X (.IfExp c a b pos) (tIf tA ta tb) := by
  with_unfolding_all
    intro pins s σ H Q I h
    refine wpAny_IfExp (thn (hc pins s σ H _ I h) fun d s1 ⟨H1, I1, q1⟩ => ?_)
    cases d with
    | true => exact ha pins s1 σ H1 Q I1 q1
    | false => exact hb pins s1 σ H1 Q I1 q1
end
end L2
namespace L2
open PySem PySem.Spec PyProof.Rows
def SqL (K : PySem.W.Frag) (H : Hp) (a : Addr) (xs : List V) : Prop :=
  Rd H a (.lst xs) ∨
    ∃ (o : Obj) (its : Array Value) (n : Nat), K.lookup a = some o ∧ o.cls = .type "list" ∧ o.dict = none ∧ o.data = .seq its n ∧ its.size ≤ sizeLine ∧ Vals xs its.toList
def SqT (K : PySem.W.Frag) (H : Hp) (a : Addr) (xs : List V) : Prop :=
  Rd H a (.tup xs) ∨
    ∃ (o : Obj) (its : Array Value) (n : Nat), K.lookup a = some o ∧ o.cls = .type "tuple" ∧ o.data = .seq its n ∧ its.size ≤ sizeLine ∧ Vals xs its.toList
def absV : Value → Option V
  | .none => some .non
  | .bool b => some (.bl b)
  | .int i _ => some (.int i)
  | .str x _ => some (.str x)
  | .bytes b _ => some (.byt b)
  | .float b _ => some (.flt b)
  | .ref a => some (.ref a)
  | .type n => some (.ty n)
  | _ => none
theorem RelV.abs {x : V} {u : Value} (r : RelV x u) : absV u = some x := by
  cases x with
  | non => cases r; rfl
  | bl _ => cases r; rfl
  | int _ => obtain ⟨t, rfl⟩ := r; rfl
  | str _ => obtain ⟨t, rfl⟩ := r; rfl
  | byt _ => obtain ⟨t, rfl⟩ := r; rfl
  | flt _ => obtain ⟨t, rfl⟩ := r; rfl
  | ref _ => cases r; rfl
  | ty _ => cases r; rfl
theorem RelV.inj {x y : V} {u : Value} (r : RelV x u) (q : RelV y u) : x = y := Option.some.inj (r.abs.symm.trans q.abs)
theorem Vals.inj : ∀ {xs ys : List V} {us : List Value}, Vals xs us → Vals ys us → xs = ys
  | _, _, _, .nil, .nil => rfl
  | _, _, _, .cons r t, .cons r' t' => by rw [r.inj r', Vals.inj t t']
section
variable {X : Cx} {pins : List (Addr × Obj)} {σ : St} {H : Hp} {s : Shared} {a : Addr} {xs ys : List V}
theorem SqL.of {K : PySem.W.Frag} (h : H a = some (.lst xs)) : SqL K H a xs := .inl (.inl h)
theorem SqT.of {K : PySem.W.Frag} (h : H a = some (.tup xs)) : SqT K H a xs := .inl (.inl h)
theorem Inv.list (I : Inv X pins σ H s) (h : SqL X.K H a xs) : ∃ its : List Value, Vals xs its ∧ PlainL s.heap a its.toArray ∧ xs.length ≤ sizeLine := by
  rcases h with h | ⟨o, its, n, hk, hc, hd, hs, hz, r⟩
  · obtain ⟨z, its, n, r, e⟩ := h.ok I.hok
    exact ⟨its, r, ⟨_, n, e, rfl, rfl, rfl⟩, z⟩
  · refine ⟨its.toList, r, ⟨o, n, I.kIn a o hk, hc, hd, by simpa using hs⟩, ?_⟩
    have e := r.length
    simp only [Array.length_toList] at e
    omega
theorem Inv.tuple (I : Inv X pins σ H s) (h : SqT X.K H a xs) : ∃ its : List Value, Vals xs its ∧ IsTup s.heap a its.toArray ∧ xs.length ≤ sizeLine := by
  rcases h with h | ⟨o, its, n, hk, hc, hs, hz, r⟩
  · obtain ⟨z, its, r, p⟩ := h.ok I.hok
    exact ⟨its, r, p, z⟩
  · refine ⟨its.toList, r, ⟨o, I.kIn a o hk, hc, n, by simpa using hs⟩, ?_⟩
    have e := r.length
    simp only [Array.length_toList] at e
    omega
theorem Inv.list_inj (I : Inv X pins σ H s) (h : SqL X.K H a xs) (h' : SqL X.K H a ys) : xs = ys := by
  obtain ⟨its, r, ⟨o, n, e, _, _, d⟩, _⟩ := I.list h
  obtain ⟨its', r', ⟨o', n', e', _, _, d'⟩, _⟩ := I.list h'
  rw [e] at e'; cases e'
  rw [d] at d'
  injection d' with d1 _
  have : its = its' := by simpa using congrArg Array.toList d1
  subst this
  exact r.inj r'
theorem Inv.tuple_inj (I : Inv X pins σ H s) (h : SqT X.K H a xs) (h' : SqT X.K H a ys) : xs = ys := by
  obtain ⟨its, r, ⟨o, e, _, n, d⟩, _⟩ := I.tuple h
  obtain ⟨its', r', ⟨o', e', _, n', d'⟩, _⟩ := I.tuple h'
  rw [e] at e'; cases e'
  rw [d] at d'
  injection d' with d1 _
  have : its = its' := by simpa using congrArg Array.toList d1
  subst this
  exact r.inj r'
end
abbrev Cx.wish (X : Cx) (E : Value → Shared → Prop) : Cx := { X with xe := E }
abbrev Cx.nox (X : Cx) : Cx := X.wish fun _ _ => False
theorem Cx.Ok.wish {X : Cx} (ok : X.Ok) (E : Value → Shared → Prop) : (X.wish E).Ok :=
  ⟨ok.mod, ok.kind, ok.glob, ok.blt, ok.above, ok.inj, ok.has, ok.cab, ok.hd, ok.frames, ok.stk, ok.exf, ok.bs, ok.bsz, ok.noex, ok.exfs, ok.funs, ok.frf⟩
theorem Cx.Ok.unwish {X : Cx} {E : Value → Shared → Prop} (ok : (X.wish E).Ok) : X.Ok :=
  ⟨ok.mod, ok.kind, ok.glob, ok.blt, ok.above, ok.inj, ok.has, ok.cab, ok.hd, ok.frames, ok.stk, ok.exf, ok.bs, ok.bsz, ok.noex, ok.exfs, ok.funs, ok.frf⟩
section
variable {X : Cx} {pins : List (Addr × Obj)} {σ : St} {H : Hp} {s : Shared} {E : Value → Shared → Prop}
theorem Inv.wish (I : Inv X pins σ H s) (E : Value → Shared → Prop) : Inv (X.wish E) pins σ H s := ⟨I.ok.wish E, I.os, I.bare, I.base, I.loc, I.cell, I.free, I.freeC, I.pin, I.hok, I.len⟩
theorem Inv.unwish (I : Inv (X.wish E) pins σ H s) : Inv X pins σ H s := ⟨I.ok.unwish, I.os, I.bare, I.base, I.loc, I.cell, I.free, I.freeC, I.pin, I.hok, I.len⟩
theorem SP.unwish {D : Ends} {f : Flow} {s' : Shared} (h : SP (X.wish E) pins D f s') : SP X pins D f s' := by
  cases f with
  | next => obtain ⟨σ', H', I, q⟩ := h; exact ⟨σ', H', I.unwish, q⟩
  | brk => obtain ⟨σ', H', I, q⟩ := h; exact ⟨σ', H', I.unwish, q⟩
  | cont => obtain ⟨σ', H', I, q⟩ := h; exact ⟨σ', H', I.unwish, q⟩
  | ret u => obtain ⟨v, σ', H', I, r, q⟩ := h; exact ⟨v, σ', H', I.unwish, r, q⟩
theorem PSs.nox {st : List Stmt} {t : TS} (h : PSs X.nox st t) : PSs X st t := by
  with_unfolding_all
    exact fun pins s σ H D I hw =>
      wpAny_mono (h pins s σ H D (I.wish _) hw) (fun _ _ q => q.unwish) fun _ _ z => False.elim z
end
section
variable {X : Cx} {st : Stmt} {rest : List Stmt} {t u : TS} {e : Expr} {te : TE} {pos : Pos}
def zmO : TS := fun D σ H => D.nx σ H
def tSeq (t u : TS) : TS := fun D σ H => t { D with nx := u D } σ H
theorem zaO : PSs X [] zmO := by
  with_unfolding_all
    exact fun _ _ σ H _ I h => wpAny_execs_nil ⟨σ, H, I, h⟩
theorem zae (h1 : PS X st t) (h2 : PSs X rest u) : PSs X (st :: rest) (tSeq t u) := by
  with_unfolding_all
    intro pins s σ H D I h
    refine wpAny_execs_cons (thn (h1 pins s σ H { D with nx := u D } I h) fun f s1 q => ?_)
    cases f with
    | next =>
      obtain ⟨σ', H', I', q⟩ := q
      exact h2 pins s1 σ' H' D I' q
    | ret v => exact q
    | brk => exact q
    | cont => exact q
theorem zaf (h1 : PS X st t) : PSs X [st] t := by
  with_unfolding_all
    intro pins s σ H D I h
    refine wpAny_execs_cons (thn (h1 pins s σ H D I h) fun f s1 q => ?_)
    cases f with
    | next => exact wpAny_execs_nil q
    | ret v => exact q
    | brk => exact q
    | cont => exact q
def zmP : TS := fun D σ H => D.ct σ H
theorem zgu : PS X (.Continue pos) zmP := by
  with_unfolding_all
    exact fun _ _ σ H _ I h => wpAny_Continue ⟨σ, H, I, h⟩
theorem Inv.quiet {pins : List (Addr × Obj)} {σ : St} {H : Hp} {s : Shared} (I : Inv X pins σ H s) : interactive X.env = false := by simp [interactive, I.ok.kind]
def zmQ (te : TE) : TS := fun D σ H => te σ H fun _ H1 => D.nx σ H1
theorem zcZ (he : PE X e te) (hs : swapsWith e none pos.line X.env = pure false := by rfl) : PS X (.Expr e pos) (zmQ te) := by
  with_unfolding_all
    intro pins s σ H D I h
    exact wpAny_Expr_any (thn (he pins s σ H _ I h) fun v s1 ⟨x, H1, I1, r1, q1⟩ => ⟨σ, H1, I1, q1⟩) I.quiet hs
def tRet (te : TE) : TS := fun D σ H => te σ H D.rt
theorem zau (he : PE X e te) : PS X (.Return (some e) pos) (tRet te) := by
  with_unfolding_all
    intro pins s σ H D I h
    exact wpAny_Return_some (thn (he pins s σ H _ I h) fun v s1 ⟨x, H1, I1, r1, q1⟩ => ⟨x, σ, H1, I1, r1, q1⟩)
def tIfS (c : TT) (t u : TS) : TS := fun D σ H => c σ H fun b H1 => if b = true then t D σ H1 else u D σ H1
theorem zbb {c : Expr} {a b : List Stmt} {tc : TT} (hc : PT X c tc) (ha : PSs X a t) (hb : PSs X b u) : PS X (.If c a b pos) (tIfS tc t u) := by
  with_unfolding_all
    intro pins s σ H D I h
    refine wpAny_If (thn (hc pins s σ H _ I h) fun d s1 ⟨H1, I1, q1⟩ => ?_)
    cases d with
    | true => exact ha pins s1 σ H1 D I1 q1
    | false => exact hb pins s1 σ H1 D I1 q1
def zlM : TS := fun _ _ _ => False
theorem zjE : PS X st zlM := by
  with_unfolding_all
    exact fun _ _ _ _ _ _ h => h.elim
end
abbrev TG := V → St → Hp → (St → Hp → Prop) → Prop
abbrev TGs := List V → St → Hp → (St → Hp → Prop) → Prop
def PG (X : Cx) (target : Expr) (t : TG) : Prop :=
  ∀ (pins : List (Addr × Obj)) (s : Shared) (σ : St) (H : Hp) (v : V) (u : Value) (Q : St → Hp → Prop), Inv X pins σ H s → RelV v u → t v σ H Q →
    wpAny (model X.prog X.w) X.A (assign target X.env u) (fun _ s' => ∃ σ' H', Inv X pins σ' H' s' ∧ Q σ' H') X.xe s
def PGs (X : Cx) (ts : List Expr) (t : TGs) : Prop :=
  ∀ (pins : List (Addr × Obj)) (s : Shared) (σ : St) (H : Hp) (vs : List V) (us : List Value) (Q : St → Hp → Prop), Inv X pins σ H s → Vals vs us → t vs σ H Q →
    wpAny (model X.prog X.w) X.A (assignInOrder ((assignEach ts X.env).map (·.2)) us) (fun _ s' => ∃ σ' H', Inv X pins σ' H' s' ∧ Q σ' H') X.xe s
abbrev TSet := V → V → V → Hp → (Hp → Prop) → Prop
def PSet (X : Cx) (t : TSet) : Prop :=
  ∀ (pins : List (Addr × Obj)) (s : Shared) (σ : St) (H : Hp) (o i v : V) (ov iv u : Value) (Q : Hp → Prop), Inv X pins σ H s → RelV o ov → RelV i iv → RelV v u → t o i v H Q →
    wpAny (model X.prog X.w) X.A (setItem ov iv u) (fun _ s' => ∃ H', Inv X pins σ H' s' ∧ Q H') X.xe s
abbrev TIp := V → V → Hp → VK → Prop
def PIp (X : Cx) (op : Operator) (t : TIp) : Prop :=
  ∀ (pins : List (Addr × Obj)) (s : Shared) (σ : St) (H : Hp) (x y : V) (v u : Value) (Q : VK), Inv X pins σ H s → RelV x v → RelV y u → t x y H Q →
    wpAny (model X.prog X.w) X.A (inplaceOp op v u) (EP X pins σ Q) X.xe s
section
variable {X : Cx} {pos : Pos}
def zcb (i : Nat) : TG := fun v σ H Q => Q (σ.set i (some v)) H
theorem zaD {i : Nat} {x : Str} (hN : X.N.Nodup) (hi : X.N[i]? = some x) (hx : Loc X.env.scope x) (hf : X.fn x = true ∨ X.env.scope.names.lookup x = some .local := by first | exact .inl rfl | exact .inr rfl | assumption) : PG X (.Name x pos) (zcb i) := by
  intro pins s σ H v u Q I r h
  exact wpAny_assign_Name (zff I hN hi hx r (fun s' I' => ⟨_, H, I', h⟩) hf)
def gNil : TGs := fun vs σ H Q => vs = [] ∧ Q σ H
def zc0 (t : TG) (u : TGs) : TGs := fun vs σ H Q => ∃ v r, vs = v :: r ∧ t v σ H fun σ' H' => u r σ' H' Q
theorem zbp : PGs X [] gNil := by
  intro pins s σ H vs us Q I r h
  obtain ⟨e, h⟩ := h
  subst e
  cases r
  exact assignInOrder_nil ⟨σ, H, I, h⟩
theorem zas {e : Expr} {es : List Expr} {t : TG} {u : TGs} (h1 : PG X e t) (h2 : PGs X es u)
    (hs : (assignEach (e :: es) X.env).map (·.2) = assign e X.env :: (assignEach es X.env).map (·.2) := by rfl) : PGs X (e :: es) (zc0 t u) := by
  intro pins s σ H vs us Q I r h
  obtain ⟨v, vr, e1, h⟩ := h
  subst e1
  cases r with
  | cons r rr =>
    rw [hs]
    refine assignInOrder_cons (thn (h1 pins s σ H _ _ _ I r h) fun _ s1 ⟨σ1, H1, I1, q1⟩ => ?_)
    exact h2 pins s1 σ1 H1 _ _ Q I1 rr q1
def gTup (K : PySem.W.Frag) (n : Nat) (t : TGs) : TG := fun v σ H Q => ∃ a xs, v = .ref a ∧ SqT K H a xs ∧ xs.length = n ∧ t xs σ H Q
theorem zca {es : List Expr} {k : Nat} {t : TGs} {n : Nat} (hc : X.calm = true) (h : PGs X es t)
    (hn : (assignEach es X.env).length = n := by rfl) (hst : (assignEach es X.env).findIdx? (·.1) = none := by rfl) : PG X (.Tuple es k pos) (gTup X.K n t) := by
  intro pins s σ H v u Q I r hw
  obtain ⟨a, xs, e1, hq, hl, hw⟩ := hw
  subst e1
  cases r
  obtain ⟨its, rv, ht, hz⟩ := I.tuple hq
  refine assign_Tuple_tuple (I.ok.hd hc) ht (by simp [hn, ← hl, rv.length]) hst fun h' hx => ?_
  have I1 : Inv X pins σ H { s with heap := h' } := I.kept (t' := s.toks) fun b o e => hx b o (Nat.ne_of_lt (Heap.lt_size e)) e
  exact h pins _ σ H xs _ Q I1 (by simpa using rv) hw
def gSub (to ti : TE) (t : TSet) : TG := fun v σ H Q => to σ H fun o H1 => ti σ H1 fun i H2 => t o i v H2 fun H3 => Q σ H3
theorem ze0 {o i : Expr} {to ti : TE} {t : TSet} (ho : PE X o to) (hi : PE X i ti) (hs : PSet X t)
    (ha : ∀ v, assign (.Subscript o i pos) X.env v = (do
      let ov ← holding [v] (eval o X.env)
      let iv ← holding [v, ov] (eval i X.env)
      standAt pos
      holding [v, ov, iv] (setItem ov iv v)
      release [v, ov, iv] []) := by intro _; rfl) : PG X (.Subscript o i pos) (gSub to ti t) := by
  with_unfolding_all
    intro pins s σ H v u Q I r h
    rw [ha]
    refine wpAny_bind (wpAny_holding (thn (ho pins s σ H _ I h) fun ov s1 ⟨x, H1, I1, r1, q1⟩ => ?_))
    refine wpAny_bind (wpAny_holding (thn (hi pins s1 σ H1 _ I1 q1) fun iv s2 ⟨y, H2, I2, r2, q2⟩ => ?_))
    refine wpAny_bind (wpAny_standAt (wpAny_bind (wpAny_holding (thn (hs pins s2 σ H2 x y v ov iv u _ I2 r1 r2 r q2) fun _ s3 ⟨H3, I3, q3⟩ => ?_))))
    exact wpAny_release ⟨σ, H3, I3, q3⟩
def tAsg (te : TE) (g : TG) : TS := fun D σ H => te σ H fun x H1 => g x σ H1 D.nx
theorem zc1 {tg e : Expr} {te : TE} {g : TG} (he : PE X e te) (hg : PG X tg g) (hs : swapsWithSole [tg] e pos.line X.env = pure false := by rfl) (hw : swappedStores [tg] e X.env = pure none := by rfl)
    (h1 : (assignEach [tg] X.env).map (·.2) = [assign tg X.env] := by rfl) : PS X (.Assign [tg] e pos) (tAsg te g) := by
  with_unfolding_all
    intro pins s σ H D I h
    refine wpAny_Assign_stores (thn (he pins s σ H _ I h) fun v s1 ⟨x, H1, I1, r1, q1⟩ => ?_) hs hw
    rw [h1]
    exact thn (hg pins s1 σ H1 x v _ I1 r1 q1) fun _ s2 q => q
theorem zav {i : Nat} {x : Str} {e : Expr} {te : TE} {pos' : Pos} (hN : X.N.Nodup) (hi : X.N[i]? = some x) (hx : Loc X.env.scope x) (he : PE X e te) (hs : swapsWith e (some (.Name x pos')) pos.line X.env = pure false := by rfl) (hf : X.fn x = true ∨ X.env.scope.names.lookup x = some .local := by first | exact .inl rfl | exact .inr rfl | assumption) :
    PS X (.Assign [.Name x pos'] e pos) (tAsg te (zcb i)) := by
  with_unfolding_all
    intro pins s σ H D I h
    refine wpAny_Assign_Name (thn (he pins s σ H _ I h) fun v s1 ⟨y, H1, I1, r1, q1⟩ => ?_) hs
    exact zff I1 hN hi hx r1 (fun s2 I2 => ⟨_, H1, I2, q1⟩) hf
def tAug (i : Nat) (te : TE) (ti : TIp) : TS := fun D σ H => ∃ x, σ[i]? = some (some x) ∧ te σ H fun y H1 => ti x y H1 fun z H2 => D.nx (σ.set i (some z)) H2
theorem zlN {i : Nat} {x : Str} {e : Expr} {te : TE} {op : Operator} {ti : TIp} {pos' : Pos} (hN : X.N.Nodup) (hi : X.N[i]? = some x) (hx : Loc X.env.scope x) (he : PE X e te) (ho : PIp X op ti) (hf : X.fn x = true ∨ X.env.scope.names.lookup x = some .local := by first | exact .inl rfl | exact .inr rfl | assumption) :
    PS X (.AugAssign (.Name x pos') op e pos) (tAug i te ti) := by
  with_unfolding_all
    intro pins s σ H D I h
    obtain ⟨v, e1, h⟩ := h
    obtain ⟨m, hn, hl⟩ := I.loc
    have vis : Vis X.env.scope x := by rcases hx with k | k; exact .inl k; exact .inr (.inl k)
    obtain ⟨u, r, l⟩ := hl i x v hi e1 vis
    refine wpAny_AugAssign_Name ?_
    have go : wpAny (model X.prog X.w) X.A (eval e X.env) (fun w s₂ => wpAny (model X.prog X.w) X.A (inplaceOp op u w) (fun r s₃ => wpAny (model X.prog X.w) X.A (storeName X.env x r) (fun _ => SP X pins D .next) X.xe s₃) X.xe s₂) X.xe s := by
      refine thn (he pins s σ H _ I h) fun w s1 ⟨y, H1, I1, r1, q1⟩ => ?_
      refine thn (ho pins s1 σ H1 v y u w _ I1 r r1 q1) fun z s2 ⟨zv, H2, I2, r2, q2⟩ => ?_
      exact zff I2 hN hi hx r2 (fun s3 I3 => ⟨_, H2, I3, q2⟩) hf
    rcases l with ⟨hk, hm⟩ | ⟨hk, c, hc, hcell⟩
    · exact wpAny_loadName_local I.ok.kind hk hn hm go
    · rcases hk with hk | hk
      · exact wpAny_loadName_cell I.ok.kind hk hc hcell go
      · rcases hx with k | k
        · have : X.env.scope.names.lookup x = some .free := hk
          rw [k] at this; cases this
        · have : X.env.scope.names.lookup x = some .free := hk
          rw [k] at this; cases this
def ipI (f : Int → Int → Int) : TIp := fun x y H Q => ∃ i j, x = .int i ∧ y = .int j ∧ Q (.int (f i j)) H
theorem zlO : PIp X .Add (ipI fun i j => i + j) := by
  intro pins s σ H x y v u Q I r1 r2 h
  obtain ⟨i, j, e1, e2, q⟩ := h
  subst e1; subst e2
  obtain ⟨t, rfl⟩ := r1
  obtain ⟨t', rfl⟩ := r2
  exact iadd_int ⟨.int _, H, I.tok _, ⟨_, rfl⟩, q⟩
end
section
variable {X : Cx} {pos : Pos}
def zkt (c : TT) (tb : TS) : TS := fun D σ H => ∃ W : Nat → St → Hp → Prop, (∃ m, W m σ H) ∧ ∀ m σ H, W m σ H →
  c σ H fun b H1 => if b = true then ∃ N : St → Hp → Prop, (∀ σ' H', N σ' H' → ∃ m', m' < m ∧ W m' σ' H') ∧ tb { D with nx := N, ct := N, bk := D.nx } σ H1 else D.nx σ H1
theorem zfg {c : Expr} {body : List Stmt} {tc : TT} {tb : TS} (hp : PassesOwn (model X.prog X.w) X.A X.env X.xe) (hc : PT X c tc) (hb : PSs X body tb) : PS X (.While c body [] pos) (zkt tc tb) := by
  with_unfolding_all
    intro pins s σ H D I h
    obtain ⟨W, ⟨m0, w0⟩, turn⟩ := h
    refine wpAny_While (codeAny_whileLoop (fun n s' => ∃ σ' H', Inv X pins σ' H' s' ∧ W n σ' H') ?_ m0 ⟨σ, H, I, w0⟩)
    rintro n s1 ⟨σ1, H1, I1, w1⟩
    refine wpAny_passesOwn hp (thn (hc pins s1 σ1 H1 _ I1 (turn n σ1 H1 w1)) fun b s2 ⟨H2, I2, q2⟩ => ?_)
    cases b with
    | true =>
      obtain ⟨N, hN, q2⟩ := q2
      rw [if_pos rfl]
      refine wpAny_passesOwn hp (thn (hb pins s2 σ1 H2 _ I2 q2) fun f s3 q3 => ?_)
      cases f with
      | next =>
        obtain ⟨σ3, H3, I3, n3⟩ := q3
        obtain ⟨m', hm, w3⟩ := hN σ3 H3 n3
        exact ⟨m', hm, σ3, H3, I3, w3⟩
      | cont =>
        obtain ⟨σ3, H3, I3, n3⟩ := q3
        obtain ⟨m', hm, w3⟩ := hN σ3 H3 n3
        exact ⟨m', hm, σ3, H3, I3, w3⟩
      | brk => exact q3
      | ret v => exact q3
    | false =>
      rw [if_neg Bool.false_ne_true]
      exact wpAny_execs_nil ⟨σ1, H2, I2, q2⟩
end
structure It where
  go : Nat → Hp → Prop
  yld : Nat → Hp → V → Hp → Prop
  stop : Nat → Hp → Prop
def FpOk (X : Cx) (pins : List (Addr × Obj)) (H : Hp) (b : Addr) : Prop :=
  H b = none ∧ b ≠ X.env.locals ∧ b ∉ X.fs ∧ (b ∈ X.ex ∨ X.s₀.heap.objs.size ≤ b) ∧ (∀ x c, X.env.cells.lookup x = some c → c ≠ b) ∧ ∀ p ∈ X.pn ++ pins, p.1 ≠ b
theorem Inv.fpOk {X : Cx} {pins : List (Addr × Obj)} {σ : St} {H H' : Hp} {s : Shared} {b : Addr} (I : Inv X pins σ H s) (hb : s.heap.objs.size ≤ b) (hn : H' b = none) : FpOk X pins H' b := by
  refine ⟨hn, Nat.ne_of_gt (Nat.lt_of_lt_of_le I.lt hb), I.nofs hb, .inr (Nat.le_trans I.sz hb), fun x c e z => ?_, fun p hp z => ?_⟩
  · obtain ⟨v, q⟩ := I.cell x c e
    exact absurd (Nat.lt_of_lt_of_le q.lt (by rw [z]; exact hb)) (Nat.lt_irrefl _)
  · exact absurd (Nat.lt_of_lt_of_le (Heap.lt_size (I.pin p hp).1) (by rw [z]; exact hb)) (Nat.lt_irrefl _)
structure Turn (P : Program) (w : World) (K : PySem.W.Frag) (tg : Expr) (J : It) (fp : List Addr) (it : Addr) (tn : Nat → Heap → Prop) : Prop where
  mem : it ∈ fp
  obj : ∀ i h, tn i h → ∀ b ∈ fp, ∃ o, h.get? b = some o ∧ ∀ v, o.data ≠ .cell v
  keep : ∀ i h h', tn i h → (∀ b ∈ fp, ∀ o, h.get? b = some o → h'.get? b = some o) → tn i h'
  item : ∀ (X : Cx), X.prog = P → X.w = w → X.K = K → X.calm = true → ∀ (i : Nat) (pins : List (Addr × Obj)) (s : Shared) (σ : St) (H : Hp) (E : Value → Shared → Prop), Inv X pins σ H s → (∀ b ∈ fp, FpOk X pins H b) → tn i s.heap → J.go i H →
    wpAny (model P w) X.A (pyNext (.ref it)) (fun r s1 => ∃ u, r = some u ∧
      wpAny (model P w) X.A (letOwnedTupleGo tg (.ref it) u) (fun _ s2 => ∃ x H', Inv X pins σ H' s2 ∧ RelV x u ∧ J.yld i H x H' ∧ tn (i + 1) s2.heap ∧ ∀ b ∈ fp, H' b = none) E s1) E s
  done : ∀ (X : Cx), X.prog = P → X.w = w → X.K = K → X.calm = true → ∀ (i : Nat) (pins : List (Addr × Obj)) (s : Shared) (σ : St) (H : Hp) (E : Value → Shared → Prop), Inv X pins σ H s → (∀ b ∈ fp, FpOk X pins H b) → tn i s.heap → J.stop i H →
    wpAny (model P w) X.A (pyNext (.ref it)) (fun r s1 => r = none ∧ Inv X pins σ H s1) E s
  self : ∀ (A : Around) (i : Nat) (s : Shared) (Q : Value → Shared → Prop) (E : Value → Shared → Prop), tn i s.heap → Q (.ref it) s → wpAny (model P w) A (pyIter (.ref it)) Q E s
abbrev TI := St → Hp → (It → Hp → Prop) → Prop
def PIE (X : Cx) (pins : List (Addr × Obj)) (σ : St) (tg : Expr) (R : It → Hp → Prop) (itv : Value) (s2 : Shared) : Prop :=
  ∃ (it : Addr) (fp : List Addr) (tn : Nat → Heap → Prop) (J : It) (H' : Hp), itv = .ref it ∧ Inv X pins σ H' s2 ∧ Turn X.prog X.w X.K tg J fp it tn ∧ tn 0 s2.heap ∧ (∀ b ∈ fp, FpOk X pins H' b) ∧ R J H'
def PI (X : Cx) (tg iter : Expr) (wi : TI) : Prop :=
  ∀ (pins : List (Addr × Obj)) (s : Shared) (σ : St) (H : Hp) (R : It → Hp → Prop), Inv X pins σ H s → wi σ H R →
    wpAny (model X.prog X.w) X.A (eval iter X.env) (fun v s1 => wpAny (model X.prog X.w) X.A (pyIter v) (PIE X pins σ tg R) X.xe s1) X.xe s
theorem zk1 {M : Model} {A : Around} {E : Value → Shared → Prop} {s : Shared} {tg : Expr} {it : Addr} {u : Value} {o : Obj} {n : String} {vs : Array Value} {Q : Unit → Shared → Prop} (ho : s.heap.get? it = some o) (hc : o.cls = .type n) (hd : o.data = .fields vs)
    (hn : ["enumerate", "zip", "dict_itemiterator", "dict_reverseitemiterator", "odict_iterator", "itertools.zip_longest", "itertools.pairwise"].contains n = false) (hQ : Q () s) : wpAny M A (letOwnedTupleGo tg (.ref it) u) Q E s := by
  unfold letOwnedTupleGo
  cases tg <;> first
    | exact wpAny_pure hQ
    | (cases u <;> first
        | exact wpAny_pure hQ
        | (refine wpAny_bind (wpAny_load ho ?_)
           rw [hc, hd]
           show wpAny M A (if (["enumerate", "zip", "dict_itemiterator", "dict_reverseitemiterator", "odict_iterator", "itertools.zip_longest", "itertools.pairwise"].contains n && vs[0]? == some (rawInt _)) = true then _ else _) Q E s
           rw [if_neg (by intro h; rw [hn, Bool.false_and] at h; cases h)]
           exact wpAny_pure hQ))
def Itl (K : PySem.W.Frag) (a : Addr) : It :=
  ⟨fun i H => ∃ xs x, SqL K H a xs ∧ xs[i]? = some x, fun i H x H' => H' = H ∧ ∀ xs, SqL K H a xs → xs[i]? = some x, fun i H => ∃ xs, SqL K H a xs ∧ xs.length ≤ i⟩
def Itt (K : PySem.W.Frag) (a : Addr) : It :=
  ⟨fun i H => ∃ xs x, SqT K H a xs ∧ xs[i]? = some x, fun i H x H' => H' = H ∧ ∀ xs, SqT K H a xs → xs[i]? = some x, fun i H => ∃ xs, SqT K H a xs ∧ xs.length ≤ i⟩
def Itr (lo : Int) (n : Nat) : It := ⟨fun i _ => i < n, fun i H x H' => H' = H ∧ x = .int (lo + i), fun i _ => n ≤ i⟩
theorem zim {P : Program} {w : World} {K : PySem.W.Frag} {tg : Expr} (a it : Addr) : Turn P w K tg (Itl K a) [it] it (fun i h => h.IsListIter it a i) where
  mem := by simp
  obj := fun i h st b hb => by
    have e : b = it := by simpa using hb
    subst e
    obtain ⟨o, e, c, d⟩ := st
    exact ⟨o, e, fun v z => by rw [d] at z; cases z⟩
  keep := fun i h h' st k => st.at fun o e => k it (by simp) o e
  item := by
    intro X hP hw hK hc i pins s σ H E I hf st hg
    subst hP hw hK
    obtain ⟨xs, x, hq, hx⟩ := hg
    obtain ⟨its, rv, p, hz⟩ := I.list hq
    obtain ⟨u, hu, ru⟩ := rv.get hx
    obtain ⟨f0, f1, f2, f3, f4, f5⟩ := hf it (by simp)
    refine wpAny_pyNext_list_item st p.isList (x := u) (by simpa using hu) fun h' st' sb => ?_
    have I1 : Inv X pins σ H { s with heap := h' } := I.turned (t' := s.toks) (fun b o hb e => (sb.2 b hb).trans e) f0 f1 f3 f4 f5
    obtain ⟨o, e, c, d⟩ := id st'
    exact ⟨u, rfl, zk1 (s := { s with heap := h' }) e c d (by decide) ⟨x, H, I1, ru, ⟨rfl, fun ys hy => by rw [I.list_inj hy hq]; exact hx⟩, st', fun b hb => (hf b hb).1⟩⟩
  done := by
    intro X hP hw hK hc i pins s σ H E I hf st hg
    subst hP hw hK
    obtain ⟨xs, hq, hx⟩ := hg
    obtain ⟨its, rv, p, hz⟩ := I.list hq
    obtain ⟨f0, f1, f2, f3, f4, f5⟩ := hf it (by simp)
    have hl := rv.length
    exact wpAny_pyNext_list_end (I.ok.hd hc) st p.isList (by simp; omega) fun h' eb => ⟨rfl, I.turned (t' := s.toks) (fun b o hb e => eb b o hb e) f0 f1 f3 f4 f5⟩
  self := fun _ _ _ _ _ st h => wpAny_pyIter_listiter st h
theorem zhL {P : Program} {w : World} {K : PySem.W.Frag} {tg : Expr} (a it : Addr) : Turn P w K tg (Itt K a) [it] it (fun i h => h.IsTupleIter it a i) where
  mem := by simp
  obj := fun i h st b hb => by
    have e : b = it := by simpa using hb
    subst e
    obtain ⟨o, e, c, d⟩ := st
    exact ⟨o, e, fun v z => by rw [d] at z; cases z⟩
  keep := fun i h h' st k => st.at fun o e => k it (by simp) o e
  item := by
    intro X hP hw hK hc i pins s σ H E I hf st hg
    subst hP hw hK
    obtain ⟨xs, x, hq, hx⟩ := hg
    obtain ⟨its, rv, p, hz⟩ := I.tuple hq
    obtain ⟨u, hu, ru⟩ := rv.get hx
    obtain ⟨f0, f1, f2, f3, f4, f5⟩ := hf it (by simp)
    refine wpAny_pyNext_tuple_item st (show s.heap.IsTuple a its.toArray from p) (x := u) (by simpa using hu) fun h' st' sb => ?_
    have I1 : Inv X pins σ H { s with heap := h' } := I.turned (t' := s.toks) (fun b o hb e => (sb.2 b hb).trans e) f0 f1 f3 f4 f5
    obtain ⟨o, e, c, d⟩ := id st'
    exact ⟨u, rfl, zk1 (s := { s with heap := h' }) e c d (by decide) ⟨x, H, I1, ru, ⟨rfl, fun ys hy => by rw [I.tuple_inj hy hq]; exact hx⟩, st', fun b hb => (hf b hb).1⟩⟩
  done := by
    intro X hP hw hK hc i pins s σ H E I hf st hg
    subst hP hw hK
    obtain ⟨xs, hq, hx⟩ := hg
    obtain ⟨its, rv, p, hz⟩ := I.tuple hq
    obtain ⟨f0, f1, f2, f3, f4, f5⟩ := hf it (by simp)
    have hl := rv.length
    exact wpAny_pyNext_tuple_end (I.ok.hd hc) st (show s.heap.IsTuple a its.toArray from p) (by simp; omega) fun h' eb => ⟨rfl, I.turned (t' := s.toks) (fun b o hb e => eb b o hb e) f0 f1 f3 f4 f5⟩
  self := fun _ _ _ _ _ st h => wpAny_pyIter_tupleiter st h
theorem zhM {P : Program} {w : World} {K : PySem.W.Frag} {tg : Expr} (it : Addr) (lo : Int) (n : Nat) : Turn P w K tg (Itr lo n) [it] it (fun i h => IsRangeIter h it (lo + (i : Nat) * 1) ((n : Int) - (i : Nat)) 1) where
  mem := by simp
  obj := fun i h st b hb => by
    have e : b = it := by simpa using hb
    subst e
    exact ⟨_, st, fun v z => by
      have z' : Data.fields _ = Data.cell v := z
      cases z'⟩
  keep := fun i h h' st k => k it (by simp) _ st
  item := by
    intro X hP hw hK hc i pins s σ H E I hf st hg
    subst hP hw hK
    obtain ⟨f0, f1, f2, f3, f4, f5⟩ := hf it (by simp)
    have W := Walks.range (prog := X.prog) (w := X.w) (I.ok.hd hc) it lo 1 n
    refine W.item i s _ _ hg st fun v h' tk hv st' kk => ?_
    obtain ⟨t, rfl⟩ := hv
    have I1 : Inv X pins σ H { s with heap := h', toks := tk } := I.turned (fun b o hb e => kk b o (by simpa using hb) e) f0 f1 f3 f4 f5
    refine ⟨_, rfl, zk1 (s := { s with heap := h', toks := tk }) (n := "range_iterator") st' rfl rfl (by decide) ⟨.int (lo + i), H, I1, ⟨t, ?_⟩, ⟨rfl, rfl⟩, st', fun b hb => (hf b hb).1⟩⟩
    rw [Int.mul_one]
  done := by
    intro X hP hw hK hc i pins s σ H E I hf st hg
    subst hP hw hK
    obtain ⟨f0, f1, f2, f3, f4, f5⟩ := hf it (by simp)
    exact wpAny_pyNext_range_end (I.ok.hd hc) st (by have : n ≤ i := hg; omega) fun h' eb => ⟨rfl, I.turned (t' := s.toks) (fun b o hb e => eb b o hb e) f0 f1 f3 f4 f5⟩
  self := fun _ _ _ _ _ st h => wpAny_pyIter_rangeiter st h
end L2
namespace L2
open PySem PySem.Spec PyProof.Rows
section
variable {X : Cx} {tg : Expr}
def zlP (K : PySem.W.Frag) (tl : TE) : TI := fun σ H R => tl σ H fun x H1 => ∃ a, x = .ref a ∧ (∃ xs, SqL K H1 a xs) ∧ R (Itl K a) H1
def iTup (K : PySem.W.Frag) (tl : TE) : TI := fun σ H R => tl σ H fun x H1 => ∃ a, x = .ref a ∧ (∃ xs, SqT K H1 a xs) ∧ R (Itt K a) H1
theorem zaE {l : Expr} {tl : TE} (hl : PE X l tl) : PI X tg l (zlP X.K tl) := by
  with_unfolding_all
    intro pins s σ H R I h
    refine thn (hl pins s σ H _ I h) fun v s1 ⟨x, H1, I1, r1, q1⟩ => ?_
    obtain ⟨a, e, ⟨xs, hq⟩, q⟩ := q1
    subst e
    cases r1
    obtain ⟨its, rv, p, hz⟩ := I1.list hq
    refine wpAny_pyIter_list p.isList ?_
    refine ⟨s1.heap.objs.size, [s1.heap.objs.size], _, _, H1, rfl, I1.kept (t' := s1.toks) fun b o e => Heap.get?_push_of_some _ e, zim a _, ⟨_, Heap.get?_push_size _ rfl, rfl, rfl⟩, fun b hb => ?_, q⟩
    have e : b = s1.heap.objs.size := by simpa using hb
    subst e
    exact I1.fpOk (Nat.le_refl _) (I1.hok.fresh (Nat.le_refl _))
theorem zlQ {l : Expr} {tl : TE} (hl : PE X l tl) : PI X tg l (iTup X.K tl) := by
  with_unfolding_all
    intro pins s σ H R I h
    refine thn (hl pins s σ H _ I h) fun v s1 ⟨x, H1, I1, r1, q1⟩ => ?_
    obtain ⟨a, e, ⟨xs, hq⟩, q⟩ := q1
    subst e
    cases r1
    obtain ⟨its, rv, p, hz⟩ := I1.tuple hq
    refine wpAny_pyIter_tuple (show s1.heap.IsTuple a its.toArray from p) ?_
    refine ⟨s1.heap.objs.size, [s1.heap.objs.size], _, _, H1, rfl, I1.kept (t' := s1.toks) fun b o e => Heap.get?_push_of_some _ e, zhL a _, ⟨_, Heap.get?_push_size _ rfl, rfl, rfl⟩, fun b hb => ?_, q⟩
    have e : b = s1.heap.objs.size := by simpa using hb
    subst e
    exact I1.fpOk (Nat.le_refl _) (I1.hok.fresh (Nat.le_refl _))
theorem zjF {pins : List (Addr × Obj)} {σ : St} {H : Hp} {s : Shared} {R : It → Hp → Prop} {E : Value → Shared → Prop} {lo hi : Int} {t u v : Tok} {tk : Nat} (I : Inv X pins σ H s) (h1 : -(2 ^ 62) ≤ lo) (h2 : lo < 2 ^ 62) (h3 : -(2 ^ 62) ≤ hi) (h4 : hi < 2 ^ 62)
    (q : R (Itr lo (hi - lo).toNat) H) : wpAny (model X.prog X.w) X.A (pyIter (.ref s.heap.objs.size)) (PIE X pins σ tg R) E { s with heap := s.heap.push { cls := .type "range", data := .fields #[.int lo t, .int hi u, .int 1 v] }, toks := tk } := by
  refine wpAny_pyIter_range (IsRange.new ..) (small_one h1 h2 h3 h4) ?_
  have I1 : Inv X pins σ H { s with heap := s.heap.push { cls := .type "range", data := .fields #[.int lo t, .int hi u, .int 1 v] }, toks := tk } := I.kept fun b o e => Heap.get?_push_of_some _ e
  refine ⟨(s.heap.push { cls := .type "range", data := .fields #[.int lo t, .int hi u, .int 1 v] }).objs.size, [(s.heap.push { cls := .type "range", data := .fields #[.int lo t, .int hi u, .int 1 v] }).objs.size], _, _, H, rfl,
    I1.kept (t' := tk) fun b o e => Heap.get?_push_of_some _ e, zhM _ lo (hi - lo).toNat, ?_, fun b hb => ?_, q⟩
  · have e1 : lo + ((0 : Nat) : Int) * 1 = lo := by simp
    have e2 : (((hi - lo).toNat : Nat) : Int) - ((0 : Nat) : Int) = Builtin.Range.rangeSize lo hi 1 := by rw [rangeSize_one]; split <;> omega
    show IsRangeIter _ _ (lo + ((0 : Nat) : Int) * 1) ((((hi - lo).toNat : Nat) : Int) - ((0 : Nat) : Int)) 1
    rw [e1, e2]
    exact Heap.get?_push_size _ rfl
  · have e : b = (s.heap.push { cls := .type "range", data := .fields #[.int lo t, .int hi u, .int 1 v] }).objs.size := by simpa using hb
    subst e
    exact I1.fpOk (Nat.le_refl _) (I1.hok.fresh (Nat.le_refl _))
def zmR (ta : TA) : TI := fun σ H R => ta σ H fun vs H1 => ∃ j : Int, vs = [.int j] ∧ -(2 ^ 62) ≤ j ∧ j < 2 ^ 62 ∧ R (Itr 0 j.toNat) H1
theorem zfE {a : Expr} {ta : TA} {p pos : Pos} (hg : Gl X "range") (hm : X.mg "range" = none) (ha : PA X [a] ta) (hs : starEach [a] X.env = [(false, eval a X.env)] := by rfl) : PI X tg (.Call (.Name "range" p) [a] [] pos) (zmR ta) := by
  with_unfolding_all
    intro pins s σ H R I h
    refine Call_ (zd2 I hg hm boot_range (PyProof.Rows.callWith_type1 (thn (ha pos pins s σ H _ I h) fun us s1 ⟨vs, H1, I1, r1, q1⟩ => ?_) hs rfl))
    obtain ⟨j, e, q1, q2, q⟩ := q1
    subst e
    cases r1 with
    | cons r rr =>
      cases rr
      obtain ⟨t, rfl⟩ := r
      exact call_range_1 (zjF I1 (by omega) (by omega) q1 q2 (by simpa using q))
def tFor (wi : TI) (g : TG) (tb : TS) : TS := fun D σ H => wi σ H fun J H1 => ∃ W : Nat → Nat → St → Hp → Prop, (∃ m, W 0 m σ H1) ∧ ∀ i m σ H, W i m σ H →
  (J.stop i H ∧ D.nx σ H) ∨ (J.go i H ∧ ∃ N : St → Hp → Prop, (∀ σ' H', N σ' H' → ∃ m', m' < m ∧ W (i + 1) m' σ' H') ∧ ∀ x H', J.yld i H x H' → g x σ H' fun σ2 H2 => tb { D with nx := N, ct := N, bk := D.nx } σ2 H2)
def zd3 (fp : List Addr) (h : Heap) : List (Addr × Obj) := fp.filterMap fun b => (h.get? b).map fun o => (b, o)
theorem zbd {fp : List Addr} {h : Heap} {b : Addr} {o : Obj} (hb : b ∈ fp) (e : h.get? b = some o) : (b, o) ∈ zd3 fp h := List.mem_filterMap.mpr ⟨b, hb, by rw [e]; rfl⟩
theorem zin {fp : List Addr} {h : Heap} {p : Addr × Obj} (hp : p ∈ zd3 fp h) : p.1 ∈ fp ∧ h.get? p.1 = some p.2 := by
  obtain ⟨b, hb, e⟩ := List.mem_filterMap.mp hp
  cases q : h.get? b with
  | none => rw [q] at e; cases e
  | some o =>
    rw [q] at e
    have e' : (b, o) = p := Option.some.inj e
    subst e'
    exact ⟨hb, q⟩
theorem Inv.pinned {pins : List (Addr × Obj)} {σ : St} {H : Hp} {s : Shared} {fp : List Addr} (I : Inv X pins σ H s) (hf : ∀ b ∈ fp, FpOk X pins H b) (ho : ∀ b ∈ fp, ∃ o, s.heap.get? b = some o ∧ ∀ v, o.data ≠ .cell v) : Inv X (pins ++ zd3 fp s.heap) σ H s :=
  I.pins_of fun p hp => (List.mem_append.mp hp).elim (fun z => I.pin p (List.mem_append_right _ z)) fun z => by
    obtain ⟨hb, e⟩ := zin z
    obtain ⟨f0, f1, f2, _⟩ := hf p.1 hb
    obtain ⟨o, e', d⟩ := ho p.1 hb
    rw [e] at e'; cases e'
    exact ⟨e, f0, f1, f2, d⟩
theorem Inv.unpinned {pins pl : List (Addr × Obj)} {σ : St} {H : Hp} {s : Shared} (I : Inv X (pins ++ pl) σ H s) : Inv X pins σ H s := I.pins_of fun p hp => I.pin p (List.mem_append_right _ (List.mem_append_left _ hp))
theorem zc2 {iter : Expr} {body : List Stmt} {wi : TI} {g : TG} {tb : TS} {pos : Pos} (hp : PassesOwn (model X.prog X.w) X.A X.env X.xe) (hc : X.calm = true) (hi : PI X tg iter wi) (hg : PG X tg g) (hb : PSs X body tb)
    (hs : ∀ x, foldedSetIterable iter X.env x = pure x := by intro _; rfl) : PS X (.For tg iter body [] pos) (tFor wi g tb) := by
  with_unfolding_all
    intro pins s σ H D I h
    refine wpAny_For (thn (hi pins s σ H _ I h) fun v s1 h1 => thn h1 fun itv s2 h2 => ?_) hs
    obtain ⟨it, fp, tn, J, H2, e, I2, T, st2, f2, W, ⟨m0, w0⟩, turn⟩ := h2
    subst e
    have stat : ∀ {H' : Hp}, (∀ b ∈ fp, H' b = none) → ∀ b ∈ fp, FpOk X pins H' b := fun hn b hb => ⟨hn b hb, (f2 b hb).2⟩
    refine codeAny_forLoop_any (fun n s' => ∃ i σ' H', Inv X pins σ' H' s' ∧ tn i s'.heap ∧ (∀ b ∈ fp, H' b = none) ∧ W i n σ' H') ?_ m0 ⟨0, σ, H2, I2, st2, fun b hb => (f2 b hb).1, w0⟩
    rintro n s3 ⟨i, σ3, H3, I3, st3, fr3, w3⟩
    rcases turn i n σ3 H3 w3 with ⟨stop, qn⟩ | ⟨go, N, hN, step⟩
    · refine wpAny_passesOwn hp (thn (T.done X rfl rfl rfl hc i pins s3 σ3 H3 X.xe I3 (stat fr3) st3 stop) fun r s4 ⟨hr, I4⟩ => ?_)
      subst hr
      exact wpAny_execs_nil ⟨σ3, H3, I4, qn⟩
    · refine wpAny_passesOwn hp (thn (T.item X rfl rfl rfl hc i pins s3 σ3 H3 X.xe I3 (stat fr3) st3 go) fun r s4 ⟨u, hr, h4⟩ => ?_)
      subst hr
      refine wpAny_passesOwn hp (thn h4 fun _ s5 ⟨x, H5, I5, r5, y5, st5, fr5⟩ => ?_)
      have I5' := I5.pinned (stat fr5) (T.obj _ _ st5)
      refine wpAny_passesOwn hp (thn (hg _ s5 σ3 H5 x u _ I5' r5 (step x H5 y5)) fun _ s6 ⟨σ6, H6, I6, q6⟩ => ?_)
      refine wpAny_passesOwn hp (thn (hb _ s6 σ6 H6 _ I6 q6) fun f s7 q7 => ?_)
      have again : ∀ {σ7 : St} {H7 : Hp}, Inv X (pins ++ zd3 fp s5.heap) σ7 H7 s7 → N σ7 H7 → ∃ m, m < n ∧ ∃ i σ' H', Inv X pins σ' H' s7 ∧ tn i s7.heap ∧ (∀ b ∈ fp, H' b = none) ∧ W i m σ' H' := fun {σ7 H7} I7 n7 => by
        obtain ⟨m', hm, w7⟩ := hN σ7 H7 n7
        refine ⟨m', hm, i + 1, σ7, H7, I7.unpinned, T.keep _ _ _ st5 fun b hb o e => (I7.pin (b, o) (List.mem_append_right _ (List.mem_append_right _ (zbd hb e)))).1, fun b hb => ?_, w7⟩
        obtain ⟨o, e, d⟩ := T.obj _ _ st5 b hb
        exact (I7.pin (b, o) (List.mem_append_right _ (List.mem_append_right _ (zbd hb e)))).2.1
      cases f with
      | next => obtain ⟨σ7, H7, I7, n7⟩ := q7; exact again I7 n7
      | cont => obtain ⟨σ7, H7, I7, n7⟩ := q7; exact again I7 n7
      | brk => obtain ⟨σ7, H7, I7, q7⟩ := q7; exact ⟨σ7, H7, I7.unpinned, q7⟩
      | ret v => obtain ⟨x7, σ7, H7, I7, r7, q7⟩ := q7; exact ⟨x7, σ7, H7, I7.unpinned, r7, q7⟩
end
theorem zdf {K : PySem.W.Frag} {a : Addr} {xs : List V} {g : TG} {tb : TS} {D : Ends} {σ : St} {H : Hp} (Pv : Nat → St → Hp → Prop) (h0 : Pv 0 σ H) (hl : ∀ i σ H, i ≤ xs.length → Pv i σ H → SqL K H a xs)
    (hs : ∀ i x σ H, xs[i]? = some x → Pv i σ H → g x σ H fun σ2 H2 => tb { D with nx := Pv (i + 1), ct := Pv (i + 1), bk := D.nx } σ2 H2) (hd : ∀ σ H, Pv xs.length σ H → D.nx σ H) :
    ∃ W : Nat → Nat → St → Hp → Prop, (∃ m, W 0 m σ H) ∧ ∀ i m σ H, W i m σ H →
      ((Itl K a).stop i H ∧ D.nx σ H) ∨ ((Itl K a).go i H ∧ ∃ N : St → Hp → Prop, (∀ σ' H', N σ' H' → ∃ m', m' < m ∧ W (i + 1) m' σ' H') ∧ ∀ x H', (Itl K a).yld i H x H' → g x σ H' fun σ2 H2 => tb { D with nx := N, ct := N, bk := D.nx } σ2 H2) := by
  refine ⟨fun i m σ H => m = xs.length - i ∧ i ≤ xs.length ∧ Pv i σ H, ⟨xs.length, by simp, Nat.zero_le _, h0⟩, ?_⟩
  rintro i m σ H ⟨rfl, hi, p⟩
  have q := hl i σ H hi p
  by_cases hlt : i < xs.length
  · refine .inr ⟨⟨xs, xs[i], q, by simp [hlt]⟩, Pv (i + 1), fun σ' H' p' => ⟨xs.length - (i + 1), by omega, rfl, hlt, p'⟩, fun x H' y => ?_⟩
    obtain ⟨e, y⟩ := y
    subst e
    exact hs i x σ _ (y xs q) p
  · have e : i = xs.length := by omega
    subst e
    exact .inl ⟨⟨xs, q, Nat.le_refl _⟩, hd σ H p⟩
theorem zk2 {K : PySem.W.Frag} {a : Addr} {xs : List V} {g : TG} {tb : TS} {D : Ends} {σ : St} {H : Hp} (Pv : Nat → St → Hp → Prop) (h0 : Pv 0 σ H) (hl : ∀ i σ H, i ≤ xs.length → Pv i σ H → SqT K H a xs)
    (hs : ∀ i x σ H, xs[i]? = some x → Pv i σ H → g x σ H fun σ2 H2 => tb { D with nx := Pv (i + 1), ct := Pv (i + 1), bk := D.nx } σ2 H2) (hd : ∀ σ H, Pv xs.length σ H → D.nx σ H) :
    ∃ W : Nat → Nat → St → Hp → Prop, (∃ m, W 0 m σ H) ∧ ∀ i m σ H, W i m σ H →
      ((Itt K a).stop i H ∧ D.nx σ H) ∨ ((Itt K a).go i H ∧ ∃ N : St → Hp → Prop, (∀ σ' H', N σ' H' → ∃ m', m' < m ∧ W (i + 1) m' σ' H') ∧ ∀ x H', (Itt K a).yld i H x H' → g x σ H' fun σ2 H2 => tb { D with nx := N, ct := N, bk := D.nx } σ2 H2) := by
  refine ⟨fun i m σ H => m = xs.length - i ∧ i ≤ xs.length ∧ Pv i σ H, ⟨xs.length, by simp, Nat.zero_le _, h0⟩, ?_⟩
  rintro i m σ H ⟨rfl, hi, p⟩
  have q := hl i σ H hi p
  by_cases hlt : i < xs.length
  · refine .inr ⟨⟨xs, xs[i], q, by simp [hlt]⟩, Pv (i + 1), fun σ' H' p' => ⟨xs.length - (i + 1), by omega, rfl, hlt, p'⟩, fun x H' y => ?_⟩
    obtain ⟨e, y⟩ := y
    subst e
    exact hs i x σ _ (y xs q) p
  · have e : i = xs.length := by omega
    subst e
    exact .inl ⟨⟨xs, q, Nat.le_refl _⟩, hd σ H p⟩
theorem zfF {lo : Int} {n : Nat} {g : TG} {tb : TS} {D : Ends} {σ : St} {H : Hp} (Pv : Nat → St → Hp → Prop) (h0 : Pv 0 σ H)
    (hs : ∀ i σ H, i < n → Pv i σ H → g (.int (lo + i)) σ H fun σ2 H2 => tb { D with nx := Pv (i + 1), ct := Pv (i + 1), bk := D.nx } σ2 H2) (hd : ∀ σ H, Pv n σ H → D.nx σ H) :
    ∃ W : Nat → Nat → St → Hp → Prop, (∃ m, W 0 m σ H) ∧ ∀ i m σ H, W i m σ H →
      ((Itr lo n).stop i H ∧ D.nx σ H) ∨ ((Itr lo n).go i H ∧ ∃ N : St → Hp → Prop, (∀ σ' H', N σ' H' → ∃ m', m' < m ∧ W (i + 1) m' σ' H') ∧ ∀ x H', (Itr lo n).yld i H x H' → g x σ H' fun σ2 H2 => tb { D with nx := N, ct := N, bk := D.nx } σ2 H2) := by
  refine ⟨fun i m σ H => m = n - i ∧ i ≤ n ∧ Pv i σ H, ⟨n, by simp, Nat.zero_le _, h0⟩, ?_⟩
  rintro i m σ H ⟨rfl, hi, p⟩
  by_cases hlt : i < n
  · refine .inr ⟨hlt, Pv (i + 1), fun σ' H' p' => ⟨n - (i + 1), by omega, rfl, hlt, p'⟩, fun x H' y => ?_⟩
    obtain ⟨e, y⟩ := y
    subst e y
    exact hs i σ _ hlt p
  · have e : i = n := by omega
    subst e
    exact .inl ⟨Nat.le_refl _, hd σ H p⟩
theorem zfh {c : TT} {tb : TS} {D : Ends} {σ : St} {H : Hp} (Pv : St → Hp → Prop) (μ : St → Hp → Nat) (h0 : Pv σ H)
    (hs : ∀ σ H, Pv σ H → c σ H fun b H1 => if b = true then tb { D with nx := fun σ' H' => Pv σ' H' ∧ μ σ' H' < μ σ H, ct := fun σ' H' => Pv σ' H' ∧ μ σ' H' < μ σ H, bk := D.nx } σ H1 else D.nx σ H1)
    (mono : ∀ σ H Q Q', (∀ b H1, Q b H1 → Q' b H1) → c σ H Q → c σ H Q') : zkt c tb D σ H := by
  refine ⟨fun m σ H => m = μ σ H ∧ Pv σ H, ⟨_, rfl, h0⟩, ?_⟩
  rintro m σ H ⟨rfl, p⟩
  refine mono σ H _ _ (fun b H1 q => ?_) (hs σ H p)
  cases b with
  | true => exact ⟨_, fun σ' H' ⟨p', l⟩ => ⟨_, l, rfl, p'⟩, q⟩
  | false => exact q
end L2
namespace L2
open PySem PySem.Spec PyProof.Rows
abbrev R2 := V → V → Hp → VK → Prop
def OpR (X : Cx) (f : Value → Value → Sem Value) (r : R2) : Prop :=
  ∀ (pins : List (Addr × Obj)) (s : Shared) (σ : St) (H : Hp) (x y : V) (v u : Value) (Q : VK), Inv X pins σ H s → RelV x v → RelV y u → r x y H Q →
    wpAny (model X.prog X.w) X.A (f v u) (EP X pins σ Q) X.xe s
def UnR (X : Cx) (f : Value → Sem Value) (r : V → Hp → VK → Prop) : Prop :=
  ∀ (pins : List (Addr × Obj)) (s : Shared) (σ : St) (H : Hp) (x : V) (v : Value) (Q : VK), Inv X pins σ H s → RelV x v → r x H Q →
    wpAny (model X.prog X.w) X.A (f v) (EP X pins σ Q) X.xe s
def zdp (X : Cx) (f : Value) (r : List V → Hp → VK → Prop) : Prop :=
  ∀ (pins : List (Addr × Obj)) (s : Shared) (σ : St) (H : Hp) (xs : List V) (us : List Value) (Q : VK), Inv X pins σ H s → Vals xs us → r xs H Q →
    wpAny (model X.prog X.w) X.A (call f us) (EP X pins σ Q) X.xe s
def tOp (r : R2) (ta tb : TE) : TE := fun σ H Q => ta σ H fun x H1 => tb σ H1 fun y H2 => r x y H2 Q
def tUn (r : V → Hp → VK → Prop) (ta : TE) : TE := fun σ H Q => ta σ H fun x H1 => r x H1 Q
def rI (C : Int → Int → Prop) (g : Int → Int → V) : R2 := fun x y H Q => ∃ i j, x = .int i ∧ y = .int j ∧ C i j ∧ Q (g i j) H
def rI0 (g : Int → Int → V) : R2 := fun x y H Q => ∃ i j, x = .int i ∧ y = .int j ∧ Q (g i j) H
def rU (g : Int → V) : V → Hp → VK → Prop := fun x H Q => ∃ i, x = .int i ∧ Q (g i) H
section
variable {X : Cx} {a b c : Expr} {ta tb tc : TE} {pos : Pos}
theorem binT (ha : PE X a ta) (hb : PE X b tb) {pins : List (Addr × Obj)} {s : Shared} {σ : St} {H : Hp} {R : V → V → Hp → Prop} (I : Inv X pins σ H s)
    (h : ta σ H fun x H1 => tb σ H1 fun y H2 => R x y H2) {Q : Value → Shared → Prop} {f : Value → Value → Sem Value}
    (hf : ∀ v u s2 x y H2, Inv X pins σ H2 s2 → RelV x v → RelV y u → R x y H2 → wpAny (model X.prog X.w) X.A (f v u) Q X.xe s2) :
    wpAny (model X.prog X.w) X.A (eval a X.env) (fun v s₁ => wpAny (model X.prog X.w) X.A (eval b X.env) (fun u s₂ => wpAny (model X.prog X.w) X.A (f v u) Q X.xe s₂) X.xe s₁) X.xe s := by
  with_unfolding_all
    refine thn (ha pins s σ H _ I h) fun v s1 ⟨x, H1, I1, r1, q1⟩ => ?_
    refine thn (hb pins s1 σ H1 _ I1 q1) fun u s2 ⟨y, H2, I2, r2, q2⟩ => ?_
    exact hf v u s2 x y H2 I2 r1 r2 q2
theorem zat {op : Operator} {r : R2} (ho : OpR X (binaryOp op) r) (ha : PE X a ta) (hb : PE X b tb) : PE X (.BinOp a op b pos) (tOp r ta tb) := by
  with_unfolding_all
    intro pins s σ H Q I h
    exact wpAny_BinOp (binT ha hb I h fun v u s2 x y H2 I2 rx ry q => ho pins s2 σ H2 x y v u Q I2 rx ry q)
theorem zeP {op : UnaryOp} {r : V → Hp → VK → Prop} (ho : UnR X (unaryOp op) r) (ha : PE X a ta) : PE X (.UnaryOp op a pos) (tUn r ta) := by
  with_unfolding_all
    intro pins s σ H Q I h
    exact UnaryOp_ (thn (ha pins s σ H _ I h) fun v s1 ⟨x, H1, I1, r1, q1⟩ => ho pins s1 σ H1 x v Q I1 r1 q1)
theorem opI {f : Value → Value → Sem Value} {C : Int → Int → Prop} {g : Int → Int → Int}
    (rule : ∀ (i j : Int) (t u : Tok) (s : Shared) (Q : Value → Shared → Prop) (E : Value → Shared → Prop), C i j → Q (.int (g i j) s.toks) { s with toks := s.toks + 1 } → wpAny (model X.prog X.w) X.A (f (.int i t) (.int j u)) Q E s) :
    OpR X f (rI C fun i j => .int (g i j)) := by
  intro pins s σ H x y v u Q I rx ry h
  obtain ⟨i, j, rfl, rfl, hc, q⟩ := h
  obtain ⟨t, rfl⟩ := rx
  obtain ⟨t', rfl⟩ := ry
  exact rule i j t t' s _ _ hc ⟨.int (g i j), H, I.tok _, ⟨_, rfl⟩, q⟩
theorem opI0 {f : Value → Value → Sem Value} {g : Int → Int → Int}
    (rule : ∀ (i j : Int) (t u : Tok) (s : Shared) (Q : Value → Shared → Prop) (E : Value → Shared → Prop), Q (.int (g i j) s.toks) { s with toks := s.toks + 1 } → wpAny (model X.prog X.w) X.A (f (.int i t) (.int j u)) Q E s) :
    OpR X f (rI0 fun i j => .int (g i j)) := by
  intro pins s σ H x y v u Q I rx ry h
  obtain ⟨i, j, rfl, rfl, q⟩ := h
  obtain ⟨t, rfl⟩ := rx
  obtain ⟨t', rfl⟩ := ry
  exact rule i j t t' s _ _ ⟨.int (g i j), H, I.tok _, ⟨_, rfl⟩, q⟩
theorem opB0 {f : Value → Value → Sem Value} {g : Int → Int → Bool}
    (rule : ∀ (i j : Int) (t u : Tok) (s : Shared) (Q : Value → Shared → Prop) (E : Value → Shared → Prop), Q (.bool (g i j)) s → wpAny (model X.prog X.w) X.A (f (.int i t) (.int j u)) Q E s) :
    OpR X f (rI0 fun i j => .bl (g i j)) := by
  intro pins s σ H x y v u Q I rx ry h
  obtain ⟨i, j, rfl, rfl, q⟩ := h
  obtain ⟨t, rfl⟩ := rx
  obtain ⟨t', rfl⟩ := ry
  exact rule i j t t' s _ _ ⟨.bl (g i j), H, I, rfl, q⟩
def CDiv (i j : Int) : Prop := 0 < j ∧ j < 1073741824
def CPow (i j : Int) : Prop := 0 ≤ j ∧ j ≤ 1000000 ∧ i.natAbs < 2 ^ 64
def CMul (i j : Int) : Prop := (-(2 ^ 64) < i ∧ i < 2 ^ 64) ∨ (-(2 ^ 64) < j ∧ j < 2 ^ 64)
theorem CMul.ok {i j : Int} (h : CMul i j) : IntMulOk i j := by
  rcases h with ⟨h1, h2⟩ | ⟨h1, h2⟩
  · exact .of_left (intBits_le_64 h1 h2)
  · exact .of_right (intBits_le_64 h1 h2)
theorem zhN (k : Nat) : (0 : Int) ≤ 2 ^ k := by
  rw [two_pow_cast]
  exact Int.natCast_nonneg _
theorem za2 : OpR X (binaryOp .Add) (rI0 fun i j => .int (i + j)) := opI0 fun _ _ _ _ _ _ _ q => add_int q
theorem ze1 : OpR X (binaryOp .Sub) (rI0 fun i j => .int (i - j)) := opI0 fun _ _ _ _ _ _ _ q => sub_int q
theorem zb3 : OpR X (binaryOp .Mult) (rI CMul fun i j => .int (i * j)) := opI fun _ _ _ _ _ _ _ hc q => mul_int q hc.ok
theorem zk3 : OpR X (binaryOp .FloorDiv) (rI CDiv fun i j => .int (i / j)) := opI fun i j _ _ _ _ _ hc q => by
  have h1 : (0 : Int) < j := hc.1
  have h2 : j < 1073741824 := hc.2
  exact floordiv_int (by omega) (by rw [Int.fdiv_eq_ediv_of_nonneg i (by omega)]; exact q) (.inl (PyProof.noPylong_small (by omega)))
theorem zcU : OpR X (binaryOp .Mod) (rI (fun _ j => 0 < j) fun i j => .int (i % j)) := opI fun i j _ _ _ _ _ hc q => by
  have h1 : (0 : Int) < j := hc
  exact mod_int' (by omega) (by rw [Int.fmod_eq_emod_of_nonneg i (by omega)]; exact q)
theorem zg8 : OpR X (binaryOp .Pow) (rI CPow fun i j => .int (i ^ j.toNat)) := opI fun _ _ _ _ _ _ _ hc q => pow_int_small hc.1 hc.2.1 hc.2.2 q
theorem zku : OpR X (binaryOp .RShift) (rI (fun _ j => 0 ≤ j) fun i j => .int (i / 2 ^ j.toNat)) := opI fun i j _ _ _ _ _ hc q =>
  rshift_int hc (by rw [Int.fdiv_eq_ediv_of_nonneg i (zhN _)]; exact q)
theorem unI {f : Value → Sem Value} {g : Int → Int}
    (rule : ∀ (i : Int) (t : Tok) (s : Shared) (Q : Value → Shared → Prop) (E : Value → Shared → Prop), Q (.int (g i) s.toks) { s with toks := s.toks + 1 } → wpAny (model X.prog X.w) X.A (f (.int i t)) Q E s) :
    UnR X f (rU fun i => .int (g i)) := by
  intro pins s σ H x v Q I rx h
  obtain ⟨i, rfl, q⟩ := h
  obtain ⟨t, rfl⟩ := rx
  exact rule i t s _ _ ⟨.int (g i), H, I.tok _, ⟨_, rfl⟩, q⟩
theorem zdo : UnR X (unaryOp .USub) (rU fun i => .int (-i)) := unI fun _ _ _ _ _ q => neg_int q
end
def scal : V → V → Bool
  | .non, .non => true | .non, .int _ => true | .int _, .non => true | .non, .bl _ => true | .bl _, .non => true | .non, .str _ => true | .str _, .non => true
  | .int _, .int _ => true | .bl _, .bl _ => true | .str _, .str _ => true | .byt _, .byt _ => true
  | .int _, .str _ => true | .str _, .int _ => true | .bl _, .str _ => true | .str _, .bl _ => true
  | _, _ => false
def rEq : R2 := fun x y H Q => scal x y = true ∧ Q (.bl (decide (x = y))) H
def rNe : R2 := fun x y H Q => scal x y = true ∧ Q (.bl (!decide (x = y))) H
theorem zio {i j : Int} : decide (V.int i = V.int j) = (i == j) := by
  rw [Bool.eq_iff_iff]
  simp
theorem zkv {i j : Bool} : decide (V.bl i = V.bl j) = (i == j) := by
  rw [Bool.eq_iff_iff]
  simp
theorem ziq {i j : Str} : decide (V.str i = V.str j) = (i == j) := by
  rw [Bool.eq_iff_iff]
  simp
theorem zir {i j : Array UInt8} : decide (V.byt i = V.byt j) = (i.toList == j.toList) := by
  rw [Bool.eq_iff_iff]
  cases i
  cases j
  simp
section
variable {X : Cx} {a b c : Expr} {ta tb tc : TE} {pos : Pos}
theorem zaR {pins : List (Addr × Obj)} {σ : St} {H : Hp} {s : Shared} {Q : VK} {k k' : Bool} (I : Inv X pins σ H s) (q : Q (.bl k) H) (e : k = k') : EP X pins σ Q (.bool k') s := by
  subst e
  exact ⟨.bl k, H, I, rfl, q⟩
theorem zcA : OpR X (compareOp .Eq) rEq := by
  intro pins s σ H x y v u Q I rx ry h
  obtain ⟨hs, q⟩ := h
  cases x with
  | non =>
    cases rx
    cases y with
    | non => cases ry; exact PySem.EqNone.eq_none_none (zaR I q (by simp))
    | bl j => cases ry; exact PySem.EqNone.eq_none_bool (zaR I q (by simp))
    | int j => obtain ⟨t', rfl⟩ := ry; exact PySem.EqNone.eq_none_int (zaR I q (by simp))
    | str j => obtain ⟨t', rfl⟩ := ry; exact PySem.EqNone.eq_none_str (zaR I q (by simp))
    | _ => exact absurd (show false = true from hs) Bool.false_ne_true
  | bl i =>
    cases rx
    cases y with
    | non => cases ry; exact PySem.EqNone.eq_bool_none (zaR I q (by simp))
    | bl j => cases ry; exact eq_bool (zaR I q zkv)
    | str j => obtain ⟨t', rfl⟩ := ry; exact PySem.EqMixed.eq_bool_str (zaR I q (by simp))
    | _ => exact absurd (show false = true from hs) Bool.false_ne_true
  | int i =>
    obtain ⟨t, rfl⟩ := rx
    cases y with
    | non => cases ry; exact PySem.EqNone.eq_int_none (zaR I q (by simp))
    | int j => obtain ⟨t', rfl⟩ := ry; exact eq_int (zaR I q zio)
    | str j => obtain ⟨t', rfl⟩ := ry; exact PySem.EqMixed.eq_int_str (zaR I q (by simp))
    | _ => exact absurd (show false = true from hs) Bool.false_ne_true
  | str i =>
    obtain ⟨t, rfl⟩ := rx
    cases y with
    | non => cases ry; exact PySem.EqNone.eq_str_none (zaR I q (by simp))
    | bl j => cases ry; exact PySem.EqMixed.eq_str_bool (zaR I q (by simp))
    | int j => obtain ⟨t', rfl⟩ := ry; exact PySem.EqMixed.eq_str_int (zaR I q (by simp))
    | str j => obtain ⟨t', rfl⟩ := ry; exact eq_str (zaR I q ziq)
    | _ => exact absurd (show false = true from hs) Bool.false_ne_true
  | byt i =>
    obtain ⟨t, rfl⟩ := rx
    cases y with
    | byt j => obtain ⟨t', rfl⟩ := ry; exact PySem.W.eq_bytes (zaR I q zir)
    | _ => exact absurd (show false = true from hs) Bool.false_ne_true
  | _ => cases y <;> exact absurd (show false = true from hs) Bool.false_ne_true
theorem zis : OpR X (compareOp .NotEq) rNe := by
  intro pins s σ H x y v u Q I rx ry h
  obtain ⟨hs, q⟩ := h
  cases x with
  | non =>
    cases rx
    cases y with
    | non => cases ry; exact PySem.EqNone.ne_none_none (zaR I q (by simp))
    | bl j => cases ry; exact PySem.EqNone.ne_none_bool (zaR I q (by simp))
    | int j => obtain ⟨t', rfl⟩ := ry; exact PySem.EqNone.ne_none_int (zaR I q (by simp))
    | str j => obtain ⟨t', rfl⟩ := ry; exact PySem.EqNone.ne_none_str (zaR I q (by simp))
    | _ => exact absurd (show false = true from hs) Bool.false_ne_true
  | bl i =>
    cases rx
    cases y with
    | non => cases ry; exact PySem.EqNone.ne_bool_none (zaR I q (by simp))
    | bl j => cases ry; exact ne_bool (zaR I q (congrArg not zkv))
    | str j => obtain ⟨t', rfl⟩ := ry; exact PySem.EqMixed.ne_bool_str (zaR I q (by simp))
    | _ => exact absurd (show false = true from hs) Bool.false_ne_true
  | int i =>
    obtain ⟨t, rfl⟩ := rx
    cases y with
    | non => cases ry; exact PySem.EqNone.ne_int_none (zaR I q (by simp))
    | int j => obtain ⟨t', rfl⟩ := ry; exact ne_int (zaR I q (congrArg not zio))
    | str j => obtain ⟨t', rfl⟩ := ry; exact PySem.EqMixed.ne_int_str (zaR I q (by simp))
    | _ => exact absurd (show false = true from hs) Bool.false_ne_true
  | str i =>
    obtain ⟨t, rfl⟩ := rx
    cases y with
    | non => cases ry; exact PySem.EqNone.ne_str_none (zaR I q (by simp))
    | bl j => cases ry; exact PySem.EqMixed.ne_str_bool (zaR I q (by simp))
    | int j => obtain ⟨t', rfl⟩ := ry; exact PySem.EqMixed.ne_str_int (zaR I q (by simp))
    | str j => obtain ⟨t', rfl⟩ := ry; exact ne_str (zaR I q (congrArg not ziq))
    | _ => exact absurd (show false = true from hs) Bool.false_ne_true
  | byt i =>
    obtain ⟨t, rfl⟩ := rx
    cases y with
    | byt j => obtain ⟨t', rfl⟩ := ry; exact PySem.W.ne_bytes (zaR I q (congrArg not zir))
    | _ => exact absurd (show false = true from hs) Bool.false_ne_true
  | _ => cases y <;> exact absurd (show false = true from hs) Bool.false_ne_true
theorem zk4 : OpR X (compareOp .Lt) (rI0 fun i j => .bl (decide (i < j))) := opB0 fun _ _ _ _ _ _ _ q => lt_int q
theorem zit : OpR X (compareOp .LtE) (rI0 fun i j => .bl (decide (i ≤ j))) := opB0 fun _ _ _ _ _ _ _ q => le_int q
theorem zdM : OpR X (compareOp .Gt) (rI0 fun i j => .bl (decide (j < i))) := opB0 fun _ _ _ _ _ _ _ q => gt_int q
theorem zmS : OpR X (compareOp .GtE) (rI0 fun i j => .bl (decide (j ≤ i))) := opB0 fun _ _ _ _ _ _ _ q => ge_int q
theorem ziu : OpR X (compareOp .Is) (fun x y H Q => y = .non ∧ Q (.bl (decide (x = .non))) H) := by
  intro pins s σ H x y v u Q I rx ry h
  obtain ⟨rfl, q⟩ := h
  cases ry
  refine is_none_gen (zaR I q ?_)
  cases x <;> first
    | (cases rx; rfl)
    | (obtain ⟨t, rfl⟩ := rx; rfl)
theorem zaw (b : Expr) {op : CmpOp} (h : op ≠ .In := by decide) (h2 : op ≠ .NotIn := by decide) : behindInMarks op b = false := by
  have e1 : (op == CmpOp.In) = false := by cases op <;> first | rfl | exact absurd rfl h
  have e2 : (op == CmpOp.NotIn) = false := by cases op <;> first | rfl | exact absurd rfl h2
  cases b <;> simp [behindInMarks, e1, e2]
theorem zc3 {op : CmpOp} {r : R2} (ho : OpR X (compareOp op) r) (ha : PE X a ta) (hb : PE X b tb) (hm : behindInMarks op b = false) : PE X (.Compare a [op] [b] pos) (tOp r ta tb) := by
  with_unfolding_all
    intro pins s σ H Q I h
    exact wpAny_Compare1 (binT ha hb I h fun v u s2 x y H2 I2 rx ry q => ho pins s2 σ H2 x y v u Q I2 rx ry q) hm
def zmT (t : TE) : TT := fun σ H Q => t σ H fun x H' => ∃ k, x = .bl k ∧ Q k H'
theorem zap {op : CmpOp} {r : R2} (ho : OpR X (compareOp op) r) (ha : PE X a ta) (hb : PE X b tb) (hm : behindInMarks op b = false) : PT X (.Compare a [op] [b] pos) (zmT (tOp r ta tb)) := by
  with_unfolding_all
    intro pins s σ H Q I h
    refine wpAny_isTrue_Compare1 (thn (ha pins s σ H _ I h) fun v s1 ⟨x, H1, I1, r1, q1⟩ => thn (hb pins s1 σ H1 _ I1 q1) fun u s2 ⟨y, H2, I2, r2, q2⟩ =>
      thn (ho pins s2 σ H2 x y v u _ I2 r1 r2 q2) fun c s3 ⟨z, H3, I3, r3, k, e, q3⟩ => ?_) hm
    subst e
    cases r3
    exact wpAny_truthy_bool ⟨H3, I3, q3⟩
def zlR (r r' : R2) (ta tb tc : TE) : TE := fun σ H Q => ta σ H fun x H1 => tb σ H1 fun y H2 => r x y H2 fun z H3 => ∃ k, z = .bl k ∧
  (if k = true then tc σ H3 fun w' H4 => r' y w' H4 Q else Q (.bl false) H3)
theorem zjG {op op' : CmpOp} {r r' : R2} (ho : OpR X (compareOp op) r) (ho' : OpR X (compareOp op') r') (ha : PE X a ta) (hb : PE X b tb) (hc : PE X c tc)
    (hm : lastMarks [op, op'] [b, c] = false := by with_unfolding_all rfl) : PE X (.Compare a [op, op'] [b, c] pos) (zlR r r' ta tb tc) := by
  with_unfolding_all
    intro pins s σ H Q I h
    refine Compare_chain (thn (ha pins s σ H _ I h) fun v s1 ⟨x, H1, I1, r1, q1⟩ => chain_link (thn (hb pins s1 σ H1 _ I1 q1) fun u s2 ⟨y, H2, I2, r2, q2⟩ =>
      thn (ho pins s2 σ H2 x y v u _ I2 r1 r2 q2) fun d s3 ⟨z, H3, I3, r3, k, e, q3⟩ => ?_)) hm
    subst e
    cases r3
    refine wpAny_truthy_bool ?_
    cases k with
    | false => exact ite_ff ⟨.bl false, H3, I3, rfl, q3⟩
    | true => exact ite_tt (chain_last (thn (hc pins s3 σ H3 _ I3 q3) fun w' s4 ⟨z', H4, I4, r4, q4⟩ => ho' pins s4 σ H4 y z' u w' Q I4 r2 r4 q4))
theorem zg9 : (sizeLine : Nat) < 2 ^ 63 := by rw [sizeLine_eq]; decide
theorem zfi {x : V} {us : List Value} (r : Vals [x] us) : ∃ u, us = [u] ∧ RelV x u := by
  cases r with
  | cons r1 r2 => cases r2; exact ⟨_, rfl, r1⟩
theorem zjH {x y : V} {us : List Value} (r : Vals [x, y] us) : ∃ u w', us = [u, w'] ∧ RelV x u ∧ RelV y w' := by
  cases r with
  | cons r1 r2 =>
    cases r2 with
    | cons r3 r4 => cases r4; exact ⟨_, _, rfl, r1, r3⟩
theorem zfG (hc : X.calm = true) : zdp X (.builtin "max") (fun xs H Q => ∃ i j, xs = [.int i, .int j] ∧ Q (.int (if j > i then j else i)) H) := by
  intro pins s σ H xs us Q I r h
  obtain ⟨i, j, rfl, q⟩ := h
  obtain ⟨u, w', rfl, ⟨t, rfl⟩, ⟨t', rfl⟩⟩ := zjH r
  refine max_two_ints (I.ok.hd hc) fun h' tk k => ⟨_, H, I.kept k, ?_, q⟩
  by_cases hj : j > i
  · rw [if_pos hj, if_pos hj]; exact ⟨_, rfl⟩
  · rw [if_neg hj, if_neg hj]; exact ⟨_, rfl⟩
theorem ziv (hc : X.calm = true) : zdp X (.builtin "min") (fun xs H Q => ∃ i j, xs = [.int i, .int j] ∧ Q (.int (if j < i then j else i)) H) := by
  intro pins s σ H xs us Q I r h
  obtain ⟨i, j, rfl, q⟩ := h
  obtain ⟨u, w', rfl, ⟨t, rfl⟩, ⟨t', rfl⟩⟩ := zjH r
  refine min_two_ints (I.ok.hd hc) fun h' tk k => ⟨_, H, I.kept k, ?_, q⟩
  by_cases hj : j < i
  · rw [if_pos hj, if_pos hj]; exact ⟨_, rfl⟩
  · rw [if_neg hj, if_neg hj]; exact ⟨_, rfl⟩
theorem zdC : zdp X (.type "int") (fun xs H Q => (∃ i, xs = [.int i] ∧ Q (.int i) H) ∨ ∃ k, xs = [.bl k] ∧ Q (.int (if k then 1 else 0)) H) := by
  intro pins s σ H xs us Q I r h
  rcases h with ⟨i, rfl, q⟩ | ⟨k, rfl, q⟩
  · obtain ⟨u, rfl, t, rfl⟩ := zfi r
    exact call_int_int ⟨.int i, H, I, ⟨_, rfl⟩, q⟩
  · obtain ⟨u, rfl, r1⟩ := zfi r
    cases r1
    exact call_int_bool ⟨.int (if k then 1 else 0), H, I.tok _, ⟨_, rfl⟩, q⟩
end
end L2
namespace L2
open PySem PySem.Spec PyProof.Rows
structure ObjM (h : Heap) (x dx C : Addr) (mA : Str → Option Value) : Prop where
  obj : h.get? x = some (PySem.W.instObj C dx)
  ns : h.Ns1 dx mA
  ne : dx ≠ x
theorem ziw {h : Heap} {dx : Addr} {mA : Str → Option Value} (n : h.Ns1 dx mA) : ∃ od, h.get? dx = some od ∧ ∀ name, PySem.W.lookIn name od = some (mA name) := by
  obtain ⟨o, es, ep, ho, hd, hk, _, hm⟩ := n
  refine ⟨o, ho, fun name => ?_⟩
  have e := hm name
  unfold nsFind findBy at e
  rw [← Array.find?_toList] at e
  unfold PySem.W.lookIn
  rw [hd]
  dsimp only
  split
  · rename_i y q
    rw [q] at e
    exact congrArg some e
  · rename_i q
    rw [q] at e
    have a : es.toList.any (·.refKey) = false := by
      rw [List.any_eq_false]
      intro y hy
      obtain ⟨z, t, hkey⟩ := hk y (Array.mem_toList_iff.mp hy)
      simp [DictEntry.refKey, hkey]
    have a' : ¬ es.toList.any (·.refKey) = true := by rw [a]; exact Bool.false_ne_true
    rw [if_neg a']
    exact congrArg some e
theorem ObjM.look {h : Heap} {x dx C : Addr} {mA : Str → Option Value} (I : ObjM h x dx C mA) : ∃ od, PySem.W.InstAt h x (PySem.W.instObj C dx) C (some od) ∧ ∀ name, PySem.W.lookIn name od = some (mA name) :=
  let ⟨od, ho, hl⟩ := ziw I.ns
  ⟨od, ⟨I.obj, rfl, rfl, ho⟩, hl⟩
section
variable {prog : Program} {w : World} {A : Around} {E : Value → Shared → Prop} {s : Shared} {K : PySem.W.Frag} {x dx C f : Addr} {mA : Str → Option Value} {name : Str} {v : Value}
end
theorem RelO.some_of {v : V} {o : Option Value} (r : RelO (some v) o) : ∃ u, o = some u ∧ RelV v u := by
  cases o with
  | none => exact (show False from r).elim
  | some u => exact ⟨u, rfl, r⟩
section
variable {P : Program} {w : World} {H H' : Hp} {h h' : Heap} {a C dx : Addr} {fs fs' : List (Str × V)}
theorem zk5 (hok : HOk P w H h) (e : H a = some (.ins C dx fs)) : ∃ mA, ObjM h a dx C mA ∧ (∀ f, RelO (fs.lookup f) (mA f)) ∧ PySem.Within mA (fs.map (·.1)) ∧ fs.length ≤ 1000 ∧ H dx = some (.own a) := by
  obtain ⟨d, z, ne, ob, mA, n, r, q⟩ := (show zbr P w H h a (.ins C dx fs) from hok a _ e)
  exact ⟨mA, ⟨ob, n, ne⟩, r, q, z, d⟩
end
structure Cls (K : PySem.W.Frag) (C : Addr) : Prop where
  pg : PySem.W.plainGet K C Str.empty = true
  hd : PySem.W.hasDictIn K C = true
  po : PySem.W.plainOver K C = true
  sa : PySem.W.findIn K (.ref C) "__setattr__" = some (some (.builtin "object.__setattr__"))
theorem Cls.get {K : PySem.W.Frag} {C : Addr} (c : Cls K C) (f : Str) : PySem.W.plainGet K C f = true := c.pg
def zd4 (K : PySem.W.Frag) (C : Addr) (f : Str) : Prop := PySem.W.findIn K (.ref C) f = some none
structure Con (K : PySem.W.Frag) (C : Addr) (f : Str) (v : V) (u : Value) : Prop where
  at_ : PySem.W.findIn K (.ref C) f = some (some u)
  rel : RelV v u
  get : PySem.W.specialIn K u "__get__" = some none
  cp : PySem.W.copiedNames.contains f = false
structure Meth (K : PySem.W.Frag) (C : Addr) (m : Str) (f : Addr) : Prop where
  at_ : PySem.W.findIn K (.ref C) m = some (some (.ref f))
  fn : PySem.W.isFn K (.ref f) = true
  kp : PySem.W.keepIn K (.ref f) = true
section
variable {X : Cx} {pins : List (Addr × Obj)} {σ : St} {H : Hp} {s : Shared} {a C dx : Addr} {fs : List (Str × V)} {f : Str} {v : V} {A : Around} {E : Value → Shared → Prop}
end
section
variable {X : Cx} {o e value : Expr} {f : Str} {pos pos' tpos : Pos} {ta tv : TE}
end
section
variable {X : Cx} {pins : List (Addr × Obj)} {σ : St} {H : Hp} {s : Shared} {A : Around} {E : Value → Shared → Prop} {Q : Value → Shared → Prop} {c : Value} {b : Bool}
inductive TyOf (K : PySem.W.Frag) (H : Hp) : V → Value → Prop where
  | non : TyOf K H .non (.type "NoneType")
  | bl (x : Bool) : TyOf K H (.bl x) (.type "bool")
  | int (i : Int) : TyOf K H (.int i) (.type "int")
  | str (x : Str) : TyOf K H (.str x) (.type "str")
  | flt (x : UInt64) : TyOf K H (.flt x) (.type "float")
  | lst {a : Addr} {xs : List V} (e : H a = some (.lst xs)) : TyOf K H (.ref a) (.type "list")
  | frz {a : Addr} {o : Obj} {xs : List V} (e : H a = some (.frz o (.lst xs))) : TyOf K H (.ref a) (.type "list")
  | tup {a : Addr} {xs : List V} (e : H a = some (.tup xs)) : TyOf K H (.ref a) (.type "tuple")
  | dK {a : Addr} {kvs : List (Key × V)} (e : H a = some (.dK kvs)) : TyOf K H (.ref a) (.type "dict")
  | dT {a : Addr} {kvs : List (List Key × V)} (e : H a = some (.dT kvs)) : TyOf K H (.ref a) (.type "dict")
  | ins {a C dx : Addr} {fs : List (Str × V)} (e : H a = some (.ins C dx fs)) (cl : Cls K C) (ha : PySem.W.findIn K (.ref C) "__class__" = some (some (.builtin "object.__class__")))
      (hn : PySem.W.specialIn K (.builtin "object.__class__") "__get__" = some (some (.builtin "getset_descriptor.__get__"))) (htk : PySem.W.takesIn K (.builtin "object.__class__") = some true)
      (hm : PySem.W.mroIn K C (.type "object") = some true) : TyOf K H (.ref a) (.ref C)
theorem zix {x : V} {u t : Value} (I : Inv X pins σ H s) (rx : RelV x u) (ty : TyOf X.K H x t) (e : PySem.W.kitOne X.K t c = some b) (h : ∀ tk, Q (.bool b) { s with toks := tk }) :
    wpAny (model X.prog X.w) A (call (.builtin "isinstance") [u, c]) Q E s := by
  cases ty with
  | non => cases (show u = Value.none from rx); exact PySem.W.kia_one PySem.W.kitx_none I.kIn True.intro e (fun z => nomatch z) h
  | bl y => cases (show u = Value.bool y from rx); exact PySem.W.kia_one PySem.W.kitx_bool I.kIn True.intro e (fun z => nomatch z) h
  | int i => obtain ⟨t, q⟩ := (show ∃ t, u = Value.int i t from rx); cases q; exact PySem.W.kia_one PySem.W.kitx_int I.kIn True.intro e (fun z => nomatch z) h
  | str y => obtain ⟨t, q⟩ := (show ∃ t, u = Value.str y t from rx); cases q; exact PySem.W.kia_one PySem.W.kitx_str I.kIn True.intro e (fun z => nomatch z) h
  | flt y => obtain ⟨t, q⟩ := (show ∃ t, u = Value.float y t from rx); cases q; exact PySem.W.kia_one PySem.W.kitx_float I.kIn True.intro e (fun z => nomatch z) h
  | @lst a xs ea =>
    cases (show u = Value.ref a from rx)
    obtain ⟨_, _, n, _, h1⟩ := (show zbr X.prog X.w H s.heap a (.lst xs) from I.hok a _ ea)
    exact PySem.W.kia_one PySem.W.kitx_list I.kIn ⟨_, h1, rfl⟩ e (fun z => nomatch z) h
  | @frz a ob xs ea =>
    cases (show u = Value.ref a from rx)
    obtain ⟨_, _, _, n, _, h1⟩ := (show zbr X.prog X.w H s.heap a (.frz ob (.lst xs)) from I.hok a _ ea)
    exact PySem.W.kia_one PySem.W.kitx_list I.kIn ⟨_, h1, rfl⟩ e (fun z => nomatch z) h
  | @tup a xs ea =>
    cases (show u = Value.ref a from rx)
    obtain ⟨_, _, _, p⟩ := (show zbr X.prog X.w H s.heap a (.tup xs) from I.hok a _ ea)
    obtain ⟨o, h1, h2, _⟩ := p
    exact PySem.W.kia_one PySem.W.kitx_tuple I.kIn ⟨o, h1, h2⟩ e (fun z => nomatch z) h
  | @dK a kvs ea =>
    cases (show u = Value.ref a from rx)
    obtain ⟨_, _, vs, _, p⟩ := (show zbr X.prog X.w H s.heap a (.dK kvs) from I.hok a _ ea)
    obtain ⟨o, es, ep, h1, h2, _⟩ := p
    exact PySem.W.kia_one PySem.W.kitx_dict I.kIn ⟨o, h1, h2.1⟩ e (fun z => nomatch z) h
  | @dT a kvs ea =>
    cases (show u = Value.ref a from rx)
    obtain ⟨_, _, xs, _, o, es, ep, h1, h2, _⟩ := (show zbr X.prog X.w H s.heap a (.dT kvs) from I.hok a _ ea)
    exact PySem.W.kia_one PySem.W.kitx_dict I.kIn ⟨o, h1, h2.1⟩ e (fun z => nomatch z) h
  | @ins a C dx fs ea cl ha hn htk hm =>
    cases (show u = Value.ref a from rx)
    obtain ⟨mA, O, _⟩ := zk5 I.hok ea
    obtain ⟨od, J, _⟩ := O.look
    exact PySem.W.kia_one (PySem.W.kitx_own (cl.get _) cl.hd ha hn htk hm) I.kIn J e (fun z => nomatch z) h
end
end L2
namespace L2
open PySem PySem.Spec PyProof.Rows
structure Room (k : Nat) (A : Around) : Prop where
  hd : A.handled = none
  dp : A.depth + 3 * k + 5 < recursionLimit
  un : A.units + 16 * k + 200 < cLine
  gd : A.guards = some []
theorem Room.mono {j k : Nat} {A : Around} (r : Room k A) (h : j ≤ k) : Room j A := ⟨r.hd, by have := r.dp; omega, by have := r.un; omega, r.gd⟩
theorem Room.deeper {k : Nat} {A : Around} (r : Room (k + 1) A) (env : Env) : Room k (A.deeper env) :=
  ⟨r.hd, by have := r.dp; show A.depth + 1 + 3 * k + 5 < _; omega, by have := r.un; show A.units + 3 + 16 * k + 200 < _; omega, r.gd⟩
theorem Room.in1 {k : Nat} {A : Around} (r : Room (k + 1) A) : Room k A.in1 :=
  ⟨r.hd, by have := r.dp; show A.depth + 3 * k + 5 < _; omega, by have := r.un; show A.units + 1 + 16 * k + 200 < _; omega, r.gd⟩
theorem zhO {A : Around} {C : Addr} {us : List Value} {kw : List (Str × Value)} : (A.under (.builtin "type.__call__" ⟨.ref C :: us, kw⟩)).depth = A.depth + 1 := by
  first | rfl | simp [Around.under, Code.weight, Code.isCreation, Code.isGuard, Code.isCaller, Code.frames, Code.isFrame, guardIds]
theorem zhP {A : Around} {C : Addr} {us : List Value} {kw : List (Str × Value)} : (A.under (.builtin "type.__call__" ⟨.ref C :: us, kw⟩)).units = A.units + 1 := by
  first | rfl | simp [Around.under, Code.cUnits, Code.frames, Code.isFrame]
theorem zgv {A : Around} {C : Addr} {us : List Value} {kw : List (Str × Value)} : (A.under (.builtin "type.__call__" ⟨.ref C :: us, kw⟩)).guards = A.guards := by
  first | rfl | simp [Around.under, Code.guards, Code.isGuard, guardIds, pushGuards]
theorem Room.make {k : Nat} {A : Around} (r : Room (k + 1) A) (C : Addr) (us : List Value) (kw : List (Str × Value)) : Room k (A.under (.builtin "type.__call__" ⟨.ref C :: us, kw⟩)) :=
  ⟨r.hd, by have := r.dp; rw [zhO]; omega, by have := r.un; rw [zhP]; omega, by rw [zgv]; exact r.gd⟩
theorem Room.depth {k : Nat} {A : Around} (r : Room k A) : A.depth < recursionLimit := by have := r.dp; omega
theorem Room.units0 {k : Nat} {A : Around} (r : Room k A) : A.units < cLine := by have := r.un; omega
def tNil : TA := fun _ H Q => Q [] H
def ziy (ta : TE) (tr : TA) : TA := fun σ H Q => ta σ H fun x H1 => tr σ H1 fun xs H2 => Q (x :: xs) H2
section
variable {X : Cx} {e : Expr} {es : List Expr} {te : TE} {t : TA} {pos : Pos}
theorem zac : PA X [] tNil := by
  with_unfolding_all
    exact fun _ _ _ _ H Q I h => Calls.spliced_nil ⟨[], H, I, .nil, h⟩
theorem zaa (ha : PE X e te) (hr : PA X es t) (hs : starEach (e :: es) X.env = (false, eval e X.env) :: starEach es X.env := by rfl) : PA X (e :: es) (ziy te t) := by
  with_unfolding_all
    intro pos pins s σ H Q I h
    rw [hs]
    show wpAny _ _ (spliced ((false, eval e X.env) :: backTo pos (starEach es X.env))) _ _ s
    refine Calls.spliced_cons (thn (ha pins s σ H _ I h) fun u s1 ⟨x, H1, I1, r1, q1⟩ => ?_)
    exact thn (hr pos pins s1 σ H1 _ I1 q1) fun us s2 ⟨xs, H2, I2, r2, q2⟩ => ⟨x :: xs, H2, I2, .cons r1 r2, q2⟩
end
abbrev Sp := List V → Hp → VK → XK → Prop
abbrev CXT := List Env → Hp → Shared → XK → Value → Shared → Prop
structure Env0 (P : Program) (w : World) (K : PySem.W.Frag) (mg : Str → Option Value) (base : Heap) (A : Around) (outer : List Env) (s : Shared) (H : Hp) : Prop where
  frames : A.frames = some outer
  mod : Mod K mg base
  bs : ∀ b o, base.get? b = some o → s.heap.get? b = some o ∧ H b = none
  bsz : base.objs.size ≤ s.heap.objs.size
  funs : s.heap.FunFrames base outer
  frf : ∀ b ∈ frs outer, H b = none
  hok : HOk P w H s.heap
  bare : AllBare s.gens
def CE (outer : List Env) (P : Program) (w : World) (H : Hp) (s : Shared) (Q : VK) (u : Value) (s' : Shared) : Prop :=
  ∃ v H', s'.os = s.os ∧ AllBare s'.gens ∧ Un (frs outer) [] H H' s.heap s'.heap ∧ HOk P w H' s'.heap ∧ RelV v u ∧ Q v H'
def CR (CX : CXT) (outer : List Env) (P : Program) (w : World) (H : Hp) (s : Shared) (Q : VK) (E : XK) (r : Result) (s' : Shared) : Prop :=
  match r with
  | .ok (.ret u) => CE outer P w H s Q u s'
  | .ok _ => False
  | .error e => CX outer H s E e s'
structure FnOk (P : Program) (w : World) (K : PySem.W.Frag) (mg : Str → Option Value) (base : Heap) (CX : CXT) (k : Nat) (f : Addr) (fd : FuncData) (ps : List Str) (sp : Sp) : Prop where
  len : ∀ vs H Q E, sp vs H Q E → vs.length = ps.length
  run : ∀ (A : Around) (outer : List Env) (s : Shared) (H : Hp) (args : Args) (us : List Value) (vs : List V) (Q : VK) (E : XK), Room k A → Env0 P w K mg base A outer s H → BindsTo s fd args (ps.zip us) → Vals vs us → sp vs H Q E →
    codeAny (model P w) A (.call (.ref f) args) (CR CX outer P w H s Q E) s
theorem Env0.make {P : Program} {w : World} {K : PySem.W.Frag} {mg : Str → Option Value} {base : Heap} {A : Around} {outer : List Env} {s : Shared} {H : Hp} (e : Env0 P w K mg base A outer s H) (C : Addr) (us : List Value) (kw : List (Str × Value)) :
    Env0 P w K mg base (A.under (.builtin "type.__call__" ⟨.ref C :: us, kw⟩)) outer s H := ⟨by first | exact e.frames | (simpa [Around.under, Code.envs, Code.isFrame, pushEnvs] using e.frames), e.mod, e.bs, e.bsz, e.funs, e.frf, e.hok, e.bare⟩
section
variable {X : Cx} {pins : List (Addr × Obj)} {σ : St} {H : Hp} {s s' : Shared}
theorem Inv.env0 (I : Inv X pins σ H s) : Env0 X.prog X.w X.K X.mg X.base X.A X.stack s H :=
  ⟨I.ok.frames, I.ok.mod, I.bs, Nat.le_trans I.ok.bsz I.sz, I.stack, I.stkFree, I.hok, I.bare⟩
theorem Inv.after {Q : VK} {u : Value} (I : Inv X pins σ H s) (h : CE X.stack X.prog X.w H s Q u s') : EP X pins σ Q u s' := by
  obtain ⟨v, H', os, bare, un, hok, r, q⟩ := h
  obtain ⟨hh, g, d, t, os'⟩ := s'
  obtain rfl : os' = s.os := os
  exact ⟨v, H', I.call (h' := hh) (g' := g) (d' := d) (t' := t) (ch := []) un hok bare (fun b z => absurd z (by simp)), r, q⟩
end
def zjI (sp : Sp) (dvs : List V) (E : XK) (t : TA) : TE := fun σ H Q => t σ H fun vs H1 => sp (vs ++ dvs) H1 Q E
def zb6 (K : PySem.W.Frag) (fd : FuncData) (ps : List Str) (ds : List Value) : Prop :=
  ∀ (s : Shared) (us : List Value), K.In s.heap → (us ++ ds).length = ps.length → BindsTo s fd ⟨us, []⟩ (ps.zip (us ++ ds))
theorem zb6.all {K : PySem.W.Frag} {fd : FuncData} {ps : List Str} (h : ∀ us : List Value, us.length = ps.length → bindArgs fd ⟨us, []⟩ = pure (ps.zip us)) : zb6 K fd ps [] := fun s us _ hl => by
  rw [List.append_nil] at hl ⊢
  exact .of_eq (h us hl)
def ze2 (CX : CXT) (X : Cx) (E : XK) : Prop := ∀ (pins : List (Addr × Obj)) (σ : St) (H : Hp) (s : Shared) (e : Value) (s' : Shared), Inv X pins σ H s → CX X.stack H s E e s' → X.xe e s'
section
variable {X : Cx} {CX : CXT} {k : Nat} {f C : Addr} {fd : FuncData} {ps : List Str} {sp : Sp} {dvs : List V} {ds : List Value} {E : XK} {x m : Str} {p pos apos : Pos} {e o : Expr} {es : List Expr} {ta : TE} {t : TA}
theorem zlS {pins : List (Addr × Obj)} {σ : St} {H : Hp} {s : Shared} {Q : VK} {us : List Value} {vs : List V} (F : FnOk X.prog X.w X.K X.mg X.base CX k f fd ps sp) (hr : Room k X.A) (hb : zb6 X.K fd ps ds) (hd : Vals dvs ds) (hx : ze2 CX X E)
    (I : Inv X pins σ H s) (r : Vals vs us) (h : sp (vs ++ dvs) H Q E) : wpAny (model X.prog X.w) X.A (call (.ref f) us) (EP X pins σ Q) X.xe s := by
  have r2 : Vals (vs ++ dvs) (us ++ ds) := r.append hd
  have hl : (us ++ ds).length = ps.length := by rw [← r2.length]; exact F.len _ _ _ _ h
  refine wpAny_call (codeAny_mono (F.run X.A X.stack s H ⟨us, []⟩ (us ++ ds) (vs ++ dvs) Q E hr I.env0 (hb s us I.kIn hl) r2 h) fun r s' hq => ?_)
  cases r with
  | error e => exact hx pins σ H s e s' I hq
  | ok fl =>
    cases fl with
    | ret u => exact I.after hq
    | next => exact False.elim hq
    | brk => exact False.elim hq
    | cont => exact False.elim hq
theorem zgw (F : FnOk X.prog X.w X.K X.mg X.base CX k f fd ps sp) (hr : Room k X.A) (hg : Gl X x) (hm : X.mg x = some (.ref f)) (hk : PySem.W.keepIn X.K (.ref f) = true) (hb : zb6 X.K fd ps ds) (hd : Vals dvs ds) (hx : ze2 CX X E)
    (ha : PA X (e :: es) t) (hdb : (x == ("__debug__" : Str)) = false := by decide) (he : starEach (e :: es) X.env = (false, eval e X.env) :: starEach es X.env := by rfl) (hpl : (backTo pos (starEach es X.env)).any (·.1) = false := by rfl) :
    PE X (.Call (.Name x p) (e :: es) [] pos) (zjI sp dvs E t) := by
  with_unfolding_all
    intro pins s σ H Q I h
    refine wpAny_Call_Name_kw (zil I hg hm ?_ hdb)
    refine PySem.W.callWith_K (h₀ := X.base) I.ok.mod.kin hk (thn (ha pos pins s σ H _ I h) fun us s1 ⟨vs, H1, I1, r, q⟩ => ⟨I1.kIn, ?_⟩) he hpl
    exact zlS F hr hb hd hx I1 r q
structure Mk (K : PySem.W.Frag) (C f : Addr) : Prop where
  makes : PySem.W.makesIn K C = true
  init : PySem.W.findIn K (.ref C) "__init__" = some (some (.ref f))
  fn : PySem.W.isFn K (.ref f) = true
  kp : PySem.W.keepIn K (.ref C) = true
end
section
variable {X : Cx} {CX : CXT} {k : Nat} {f C : Addr} {fd : FuncData} {ps ks : List Str} {sp : Sp} {E : XK} {x m : Str} {p pos apos kpos : Pos} {e o : Expr} {es : List Expr} {kws : List Keyword} {te ta : TE} {t tk : TA} {nm : Option Str}
structure KBinds (K : PySem.W.Frag) (fd : FuncData) (ps ks : List Str) (g : List Value → List Value → List Value) (gV : List V → List V → List V) : Prop where
  to : ∀ (s : Shared) (us ws : List Value), K.In s.heap → (g us ws).length = ps.length → BindsTo s fd ⟨us, ks.zip ws⟩ (ps.zip (g us ws))
  rel : ∀ {vs : List V} {us : List Value} {zs : List V} {ws : List Value}, Vals vs us → Vals zs ws → Vals (gV vs zs) (g us ws)
variable {g : List Value → List Value → List Value} {gV : List V → List V → List V}
end
structure FnScope (N P : List Str) (sc : Scope) : Prop where
  kind : sc.kind = .function
  co : sc.isCoroutine = false
  gen : sc.isGenerator = false
  nd : N.Nodup
  pre : N.take P.length = P
  par : ∀ x ∈ P, sc.names.lookup x = some .local ∨ sc.names.lookup x = some .cell
  nofree : ∀ y ∈ sc.names, y.2 ≠ .free
theorem zfH {kindOf : Str → Option NameKind} {x : Str} : ∀ {binds : List (Str × Value)} {m : Str → Option Value}, (∀ v, (x, v) ∉ binds) → bindL kindOf binds m x = m x
  | [], _, _ => rfl
  | (n, v) :: r, m, h => by
    unfold bindL
    rw [zfH fun w hw => h w (List.mem_cons_of_mem _ hw)]
    split
    · have : x ≠ n := by rintro rfl; exact h v List.mem_cons_self
      simp [this]
    · rfl
theorem zfI {kindOf : Str → Option NameKind} {x : Str} : ∀ {binds : List (Str × Value)} {m : Str → Option Value}, (∀ v, (x, v) ∉ binds) → bindC kindOf binds m x = m x
  | [], _, _ => rfl
  | (n, v) :: r, m, h => by
    unfold bindC
    rw [zfI fun w hw => h w (List.mem_cons_of_mem _ hw)]
    split
    · rfl
    · have : x ≠ n := by rintro rfl; exact h v List.mem_cons_self
      simp [this]
theorem zfJ {kindOf : Str → Option NameKind} {x : Str} {v : Value} : ∀ {P : List Str} {vs : List Value} {i : Nat} {m : Str → Option Value}, P.Nodup → P[i]? = some x → vs[i]? = some v → kindOf x = some .local →
    bindL kindOf (P.zip vs) m x = some v
  | [], _, _, _, _, h, _, _ => by simp at h
  | _ :: _, [], _, _, _, _, h, _ => by simp at h
  | p :: P, w :: vs, 0, m, nd, h1, h2, hk => by
    simp at h1 h2; subst h1; subst h2
    show bindL kindOf ((p, w) :: P.zip vs) m p = _
    unfold bindL
    rw [zfH fun v hv => (List.nodup_cons.mp nd).1 (List.of_mem_zip hv).1, if_pos hk]
    simp
  | p :: P, w :: vs, i + 1, m, nd, h1, h2, hk => by
    show bindL kindOf ((p, w) :: P.zip vs) m x = _
    unfold bindL
    exact zfJ (i := i) (List.nodup_cons.mp nd).2 (by simpa using h1) (by simpa using h2) hk
theorem zfK {kindOf : Str → Option NameKind} {x : Str} {v : Value} : ∀ {P : List Str} {vs : List Value} {i : Nat} {m : Str → Option Value}, P.Nodup → P[i]? = some x → vs[i]? = some v → kindOf x ≠ some .local →
    bindC kindOf (P.zip vs) m x = some v
  | [], _, _, _, _, h, _, _ => by simp at h
  | _ :: _, [], _, _, _, _, h, _ => by simp at h
  | p :: P, w :: vs, 0, m, nd, h1, h2, hk => by
    simp at h1 h2; subst h1; subst h2
    show bindC kindOf ((p, w) :: P.zip vs) m p = _
    unfold bindC
    rw [zfI fun v hv => (List.nodup_cons.mp nd).1 (List.of_mem_zip hv).1, if_neg hk]
    simp
  | p :: P, w :: vs, i + 1, m, nd, h1, h2, hk => by
    show bindC kindOf ((p, w) :: P.zip vs) m x = _
    unfold bindC
    exact zfK (i := i) (List.nodup_cons.mp nd).2 (by simpa using h1) (by simpa using h2) hk
def zeo (N : List Str) (vs : List V) : St := vs.map some ++ List.replicate (N.length - vs.length) none
def cxOf (CX : CXT) (P : Program) (w : World) (K : PySem.W.Frag) (mg : Str → Option Value) (base : Heap) (N : List Str) (qual : Str) (scope : Scope) (f : Addr) (cd : Value) (A : Around) (outer : List Env) (s : Shared) (H : Hp) (E : XK) : Cx where
  prog := P
  w := w
  K := K
  mg := mg
  base := base
  A := A.deeper (envOfC qual scope s.heap.objs.size f cd)
  N := N
  s₀ := s
  H₀ := H
  env := envOfC qual scope s.heap.objs.size f cd
  outer := outer
  stack := envOfC qual scope s.heap.objs.size f cd :: outer
  ex := []
  calm := true
  fn := fun _ => true
  pn := []
  xe := fun e s' => wpAny (model P w) (A.deeper (envOfC qual scope s.heap.objs.size f cd)) (leaving (envOfC qual scope s.heap.objs.size f cd) e) (fun _ s'' => CX outer H s E e s'') (fun e' s'' => CX outer H s E e' s'') s'
theorem zha {sc : Scope} {n : Nat} {x : Str} (h : sc.names.lookup x = some .cell) : ∃ c, (cellsFrom n sc.names []).lookup x = some c := by
  have q := PySem.W.cellsFrom_some sc.names n [] (.inl h)
  exact Option.isSome_iff_exists.mp q
theorem ziz {CX : CXT} {P : Program} {w : World} {K : PySem.W.Frag} {mg : Str → Option Value} {base : Heap} {N ps : List Str} {qual : Str} {scope : Scope} {f : Addr} {cd : Value} {A : Around} {outer : List Env} {s s1 : Shared} {H : Hp} {E : XK} {us : List Value} {vs : List V}
    (S : FnScope N ps scope) (hd : A.handled = none) (e0 : Env0 P w K mg base A outer s H) (hl : vs.length = ps.length) (r : Vals vs us)
    (x : InCallC s s.heap.objs.size (bindL (envOfC qual scope s.heap.objs.size f cd).kindOf (ps.zip us) fun _ => none) (cellsFrom (s.heap.objs.size + 1) scope.names []) (bindC (envOfC qual scope s.heap.objs.size f cd).kindOf (ps.zip us) fun _ => none) s1) :
    Inv (cxOf CX P w K mg base N qual scope f cd A outer s H E) [] (zeo N vs) H s1 := by
  have hpl : ps.length ≤ N.length := by have := congrArg List.length S.pre; rw [List.length_take] at this; omega
  obtain ⟨h1, tk, rfl, hk⟩ := x.done
  have noA : ∀ b : Addr, b ∉ (cxOf CX P w K mg base N qual scope f cd A outer s H E).ex := fun b z => absurd (show b ∈ ([] : List Addr) from z) (by simp)
  refine ⟨⟨e0.mod, S.kind, rfl, rfl, Nat.le_refl _, fun y z c h1 h2 => ?_, fun y hy => ?_, fun y c _ h => ?_, fun _ => hd, Around.frames_deeper e0.frames, .inr ⟨rfl, rfl⟩, fun b z => absurd z (noA b), e0.bs, e0.bsz, fun b _ _ => noA b, fun b z => absurd z (noA b), e0.funs, e0.frf⟩,
    rfl, e0.bare, Un.kept hk, ⟨_, x.toInCall.ns, fun i y v h1 h2 h3 => ?_⟩, fun y c h => ⟨_, x.cell y c h⟩, e0.hok.fresh (Nat.le_refl _), fun y c h => ?_, fun p hp => absurd (show p ∈ ([] : List (Addr × Obj)) from hp) (by simp), e0.hok.kept hk, ?_⟩
  · exact name_of_addr x.apart (PySem.mem_of_lookup h1) (PySem.mem_of_lookup h2)
  · have hy : scope.names.lookup y = some .cell ∨ scope.names.lookup y = some .free := hy
    rcases hy with hy | hy
    · exact zha hy
    · exact absurd rfl (S.nofree _ (PySem.mem_of_lookup hy))
  · exact Nat.le_of_lt (x.above y c (PySem.mem_of_lookup h))
  · have hi : i < vs.length := by
      unfold zeo at h2
      by_cases hi : i < vs.length
      · exact hi
      · rw [List.getElem?_append_right (by simpa using hi)] at h2
        rw [List.getElem?_replicate] at h2
        split at h2 <;> cases h2
    have ha : vs[i]? = some v := by
      unfold zeo at h2
      rw [List.getElem?_append_left (by simpa using hi), List.getElem?_map] at h2
      cases e : vs[i]? with
      | none => rw [e] at h2; cases h2
      | some a => rw [e] at h2; cases h2; rfl
    obtain ⟨u, hu, rv⟩ := r.get ha
    have hp : ps[i]? = some y := by
      rw [← S.pre, List.getElem?_take_of_lt (by omega)]; exact h1
    have ndP : ps.Nodup := by rw [← S.pre]; exact S.nd.sublist (List.take_sublist _ _)
    refine ⟨u, rv, ?_⟩
    rcases S.par y (List.mem_of_getElem? hp) with k | k
    · exact .inl ⟨k, zfJ ndP hp hu k⟩
    · obtain ⟨c, e⟩ := zha (n := s.heap.objs.size + 1) k
      refine .inr ⟨.inl k, c, e, ?_⟩
      have q := x.cell y c e
      rw [zfK ndP hp hu (by show scope.names.lookup y ≠ _; rw [k]; decide)] at q
      exact q
  · exact e0.hok.fresh (Nat.le_of_lt (x.above y c (PySem.mem_of_lookup h)))
  · unfold zeo
    show _ = N.length
    rw [List.length_append, List.length_map, List.length_replicate]
    omega
theorem zjJ {CX : CXT} {P : Program} {w : World} {K : PySem.W.Frag} {mg : Str → Option Value} {base : Heap} {k : Nat} {f : Addr} {name qual : Str} {params : Arguments} {body : List Stmt} {scope : Scope} {dV kV doc pm cdv ct oc : Value} {an od : Option Addr}
    {osl : Array (Option Value)} {N ps : List Str} {sp : Sp} (lk : K.lookup f = some ⟨oc, od, .func (PySem.W.fnOf name qual params body scope dV kV doc pm an cdv ct), osl⟩) (hcd : PySem.W.codeIn K cdv qual = true) (S : FnScope N ps scope)
    (len : ∀ vs H Q E, sp vs H Q E → vs.length = ps.length)
    (hbody : ∀ (A : Around) (outer : List Env) (s : Shared) (H : Hp) (vs : List V) (Q : VK) (E : XK), Room k (A.deeper (envOfC qual scope s.heap.objs.size f cdv)) → sp vs H Q E →
      ∃ t, PSs (cxOf CX P w K mg base N qual scope f cdv A outer s H E) body t ∧ t { nx := fun _ H' => Q .non H', rt := Q } (zeo N vs) H) :
    FnOk P w K mg base CX (k + 1) f (PySem.W.fnOf name qual params body scope dV kV doc pm an cdv ct) ps sp := by
  with_unfolding_all
    refine ⟨len, fun A outer s H args us vs Q E hr e0 hb r hsp => ?_⟩
    have hl := len _ _ _ _ hsp
    have KX : K.In s.heap := e0.mod.kin.keeps fun b o e => (e0.bs b o e).1
    have lim : s.heap.NoLimit := e0.mod.nolimit.keeps fun b o e => (e0.bs b o e).1
    have hkind : ∀ y ∈ ps.zip us, scope.names.lookup y.1 = some .local ∨ (scope.names.lookup y.1 = some .cell ∧ ((cellsFrom (s.heap.objs.size + 1) scope.names []).lookup y.1).isSome = true) := fun ⟨n, v⟩ hy => by
      rcases S.par n (List.of_mem_zip hy).1 with q | q
      · exact .inl q
      · exact .inr ⟨q, PySem.W.cellsFrom_some _ _ _ (.inl q)⟩
    refine codeAny_call_function hr.depth (KX _ _ lk) rfl S.co S.gen rfl (PySem.W.codeRec_of KX hcd) (hb _ _ _ _ ?_)
    refine wpAny_newFunctionEnv_cells S.kind hkind fun env he s1 x => ?_
    subst he
    refine ⟨lim.keeps x.toInCall.keep, codeAny_func ?_⟩
    obtain ⟨t, ht, hq⟩ := hbody A outer s H vs Q E (hr.deeper _) hsp
    have I : Inv (cxOf CX P w K mg base N qual scope f cdv A outer s H E) [] (zeo N vs) H s1 := ziz S hr.hd e0 hl r x
    refine wpAny_mono (ht [] s1 (zeo N vs) H _ I hq) (fun fl s' hs => ?_) fun e s' hs => hs
    have fin : ∀ {σ' : St} {H' : Hp} {v : V} {u : Value}, Inv (cxOf CX P w K mg base N qual scope f cdv A outer s H E) [] σ' H' s' → RelV v u → Q v H' → CE outer P w H s Q u s' :=
      fun {σ' H' v u} J rv q => ⟨v, H', J.os, J.bare, J.base, J.hok, rv, q⟩
    cases fl with
    | ret u =>
      obtain ⟨v, σ', H', J, rv, q⟩ := hs
      exact fin J rv q
    | next =>
      obtain ⟨σ', H', J, q⟩ := hs
      exact fin (v := V.non) (u := Value.none) J rfl q
    | brk =>
      obtain ⟨_, _, _, q⟩ := hs
      exact False.elim q
    | cont =>
      obtain ⟨_, _, _, q⟩ := hs
      exact False.elim q
end L2
namespace L2
open PySem PySem.Spec PyProof.Rows
section
variable {X : Cx} {x : Str} {p pos : Pos} {e : Expr} {es : List Expr} {t : TA} {id T : String} {r : List V → Hp → VK → Prop}
def tCB (r : List V → Hp → VK → Prop) (t : TA) : TE := fun σ H Q => t σ H fun vs H1 => r vs H1 Q
theorem zax (hc : zdp X (.builtin id) r) (hg : Gl X x) (hm : X.mg x = none) (hv : bootBuiltins x = some (.builtin id)) (ha : PA X (e :: es) t) (hn : x ≠ "__name__" := by decide) (hdb : (x == ("__debug__" : Str)) = false := by decide)
    (he : starEach (e :: es) X.env = (false, eval e X.env) :: starEach es X.env := by rfl) (hpl : (backTo pos (starEach es X.env)).any (·.1) = false := by rfl) : PE X (.Call (.Name x p) (e :: es) [] pos) (tCB r t) := by
  with_unfolding_all
    intro pins s σ H Q I h
    refine wpAny_Call_Name_kw (zd2 I hg hm hv ?_ hn hdb)
    exact PyProof.Rows.callWith_builtin1 (thn (ha pos pins s σ H _ I h) fun us s1 ⟨vs, H1, I1, r1, q1⟩ => hc pins s1 σ H1 vs us Q I1 r1 q1) he hpl
theorem zbs (hc : zdp X (.type T) r) (hg : Gl X x) (hm : X.mg x = none) (hv : bootBuiltins x = some (.type T)) (ha : PA X (e :: es) t) (hn : x ≠ "__name__" := by decide) (hdb : (x == ("__debug__" : Str)) = false := by decide)
    (he : starEach (e :: es) X.env = (false, eval e X.env) :: starEach es X.env := by rfl) (hpl : (backTo pos (starEach es X.env)).any (·.1) = false := by rfl) : PE X (.Call (.Name x p) (e :: es) [] pos) (tCB r t) := by
  with_unfolding_all
    intro pins s σ H Q I h
    refine wpAny_Call_Name_kw (zd2 I hg hm hv ?_ hn hdb)
    exact PyProof.Rows.callWith_type1 (thn (ha pos pins s σ H _ I h) fun us s1 ⟨vs, H1, I1, r1, q1⟩ => hc pins s1 σ H1 vs us Q I1 r1 q1) he hpl
end
end L2
namespace L2
open PySem PySem.Spec PyProof.Rows
section
variable {κ : Type} [DecidableEq κ]
def valV (kvs : List (κ × V)) (k : κ) : Option V := (kvs.find? fun kv => decide (kv.1 = k)).map (·.2)
def putK (kvs : List (κ × V)) (k : κ) (v : V) : List (κ × V) :=
  if (kvs.any fun kv => decide (kv.1 = k)) = true then kvs.map (fun kv => if kv.1 = k then (kv.1, v) else kv) else kvs ++ [(k, v)]
theorem zbt {p : κ × V} {r : List (κ × V)} {k : κ} (e : p.1 = k) : valV (p :: r) k = some p.2 := by simp [valV, List.find?_cons, e]
theorem zbu {p : κ × V} {r : List (κ × V)} {k : κ} (e : ¬ p.1 = k) : valV (p :: r) k = valV r k := by simp [valV, List.find?_cons, e]
theorem zeg (k : κ) : ∀ kvs : List (κ × V), (kvs.any fun kv => decide (kv.1 = k)) = (valV kvs k).isSome
  | [] => rfl
  | p :: r => by
    rw [List.any_cons]
    by_cases e : p.1 = k
    · simp only [zbt e, decide_eq_true e, Bool.true_or, Option.isSome_some]
    · rw [zbu e, decide_eq_false e, Bool.false_or]; exact zeg k r
theorem zhb (k j : κ) (y : V) : ∀ kvs : List (κ × V), valV (kvs.map fun kv => if kv.1 = k then (kv.1, y) else kv) j = (valV kvs j).map fun x => if j = k then y else x
  | [] => rfl
  | p :: r => by
    have ih := zhb k j y r
    rw [List.map_cons]
    by_cases h : p.1 = k
    · rw [if_pos h]
      by_cases e : p.1 = j
      · rw [zbt (p := (p.1, y)) e, zbt e, Option.map_some, if_pos (e.symm.trans h)]
      · rw [zbu (p := (p.1, y)) e, zbu e, ih]
    · rw [if_neg h]
      by_cases e : p.1 = j
      · rw [zbt (p := p) e, zbt e, Option.map_some, if_neg (fun z => h (e.trans z))]
      · rw [zbu (p := p) e, zbu e, ih]
theorem zfL (k j : κ) (y : V) : ∀ kvs : List (κ × V), valV kvs k = none → valV (kvs ++ [(k, y)]) j = if j = k then some y else valV kvs j
  | [], _ => by
    by_cases e : k = j
    · rw [if_pos e.symm]; exact zbt (p := (k, y)) e
    · rw [if_neg (fun z => e z.symm)]; exact zbu (p := (k, y)) e
  | p :: r, hn => by
    rw [List.cons_append]
    have hk : ¬ p.1 = k := fun z => by rw [zbt z] at hn; cases hn
    rw [zbu hk] at hn
    have ih := zfL k j y r hn
    by_cases e : p.1 = j
    · rw [zbt e, zbt e, if_neg (fun z => hk (e.trans z))]
    · rw [zbu e, zbu e, ih]
theorem zjK (kvs : List (κ × V)) (k j : κ) (y : V) : valV (putK kvs k y) j = if j = k then some y else valV kvs j := by
  unfold putK
  by_cases a : (kvs.any fun kv => decide (kv.1 = k)) = true
  · rw [if_pos a, zhb]
    rw [zeg] at a
    by_cases e : j = k
    · obtain ⟨x, hx⟩ := Option.isSome_iff_exists.mp a
      rw [if_pos e, e, hx, Option.map_some, if_pos rfl]
    · rw [if_neg e]
      cases valV kvs j with
      | none => rfl
      | some x => rw [Option.map_some, if_neg e]
  · rw [if_neg a]
    refine zfL k j y kvs ?_
    rw [zeg] at a
    cases q : valV kvs k with
    | none => rfl
    | some x => rw [q] at a; exact (a rfl).elim
theorem zep (kvs : List (κ × V)) (k : κ) (v : V) : (putK kvs k v).length ≤ kvs.length + 1 := by
  unfold putK
  split
  · rw [List.length_map]; omega
  · rw [List.length_append, List.length_cons, List.length_nil]; omega
theorem RelO.isSome_eq {o : Option V} {u : Option Value} (r : RelO o u) : o.isSome = u.isSome := by
  cases o with
  | none => cases u with
    | none => rfl
    | some _ => exact (show False from r).elim
  | some _ => cases u with
    | none => exact (show False from r).elim
    | some _ => rfl
theorem KV.val {kvs : List (κ × V)} {vs : List (κ × Value)} (r : KV kvs vs) (k : κ) : RelO (valV kvs k) (valueAt vs k) := by
  unfold KV at r
  induction r with
  | nil => exact True.intro
  | @cons p q ps qs h t ih =>
    obtain ⟨h1, h2⟩ := h
    by_cases e : p.1 = k
    · have e' : q.1 = k := h1.symm.trans e
      have b : valueAt (q :: qs) k = some q.2 := by simp [valueAt, List.find?_cons, e']
      rw [zbt e, b]; exact h2
    · have e' : ¬ q.1 = k := fun z => e (h1.trans z)
      have b : valueAt (q :: qs) k = valueAt qs k := by simp [valueAt, List.find?_cons, e']
      rw [zbu e, b]; exact ih
theorem KV.any {kvs : List (κ × V)} {vs : List (κ × Value)} (r : KV kvs vs) (k : κ) : (kvs.any fun kv => decide (kv.1 = k)) = vs.any fun kv => decide (kv.1 = k) := by
  unfold KV at r
  induction r with
  | nil => rfl
  | cons h t ih => rw [List.any_cons, List.any_cons, ih, h.1]
theorem KV.repl {kvs : List (κ × V)} {vs : List (κ × Value)} (r : KV kvs vs) (k : κ) {y : V} {u : Value} (ry : RelV y u) :
    KV (kvs.map fun kv => if kv.1 = k then (kv.1, y) else kv) (vs.map fun kv => if kv.1 = k then (kv.1, u) else kv) := by
  unfold KV at r ⊢
  induction r with
  | nil => exact .nil
  | @cons p q ps qs h t ih =>
    rw [List.map_cons, List.map_cons]
    refine .cons ?_ ih
    obtain ⟨h1, h2⟩ := h
    by_cases e : p.1 = k
    · rw [if_pos e, if_pos (h1.symm.trans e)]; exact ⟨h1, ry⟩
    · rw [if_neg e, if_neg (fun z => e (h1.trans z))]; exact ⟨h1, h2⟩
theorem KV.put {kvs : List (κ × V)} {vs : List (κ × Value)} (r : KV kvs vs) (k : κ) {y : V} {u : Value} (ry : RelV y u) : KV (putK kvs k y) (stored vs k u) := by
  unfold putK stored
  rw [r.any k]
  by_cases e : (vs.any fun kv => decide (kv.1 = k)) = true
  · rw [if_pos e, if_pos e]; exact r.repl k ry
  · rw [if_neg e, if_neg e]; exact Paired.snoc r ⟨rfl, ry⟩
theorem KV.length {kvs : List (κ × V)} {vs : List (κ × Value)} (r : KV kvs vs) : kvs.length = vs.length := Paired.length r
end
theorem zk6 {P : Program} {w : World} {k : Key} {u : Value} (r : RelV (kV k) u) : (zbL P w).is k u = true := by
  cases k with
  | inl i => obtain ⟨t, e⟩ := (show ∃ t, u = Value.int i t from r); subst e; exact zgs P w i t
  | inr x => obtain ⟨t, e⟩ := (show ∃ t, u = Value.str x t from r); subst e; exact zgt P w x t
theorem zfM {P : Program} {w : World} : ∀ {ks : List Key} {us : List Value}, Vals (ks.map kV) us → ItemsAre (zbL P w) ks us
  | [], _, r => by rw [List.map_nil] at r; cases r; exact .nil
  | k :: ks, _, r => by
    rw [List.map_cons] at r
    cases r with
    | cons h t => exact .cons (zk6 h) (zfM t)
abbrev KT (H : Hp) : List (List Key × V) → List (List Key × Addr × Value) → Prop := Paired fun p q => p.1 = q.1 ∧ H q.2.1 = some (.tup (p.1.map kV)) ∧ RelV p.2 q.2.2
theorem KT.val {H : Hp} {kvs : List (List Key × V)} {xs : List (List Key × Addr × Value)} (r : KT H kvs xs) (k : List Key) : RelO (valV kvs k) ((atKey xs k).map (·.2)) := by
  induction r with
  | nil => exact True.intro
  | @cons p q ps qs h t ih =>
    obtain ⟨h1, _, h2⟩ := h
    by_cases e : p.1 = k
    · have e' : q.1 = k := h1.symm.trans e
      have b : atKey (q :: qs) k = some q.2 := by simp [atKey, List.find?_cons, e']
      rw [zbt e, b]; exact h2
    · have e' : ¬ q.1 = k := fun z => e (h1.trans z)
      have b : atKey (q :: qs) k = atKey qs k := by simp [atKey, List.find?_cons, e']
      rw [zbu e, b]; exact ih
theorem KT.repl {H : Hp} {kvs : List (List Key × V)} {xs : List (List Key × Addr × Value)} (r : KT H kvs xs) (k : List Key) {y : V} {u : Value} (ry : RelV y u) :
    KT H (kvs.map fun kv => if kv.1 = k then (kv.1, y) else kv) (xs.map (putAt k u)) := by
  induction r with
  | nil => exact .nil
  | @cons p q ps qs h t ih =>
    rw [List.map_cons, List.map_cons]
    refine .cons ?_ ih
    obtain ⟨h1, h2, h3⟩ := h
    unfold putAt
    by_cases e : p.1 = k
    · rw [if_pos e, if_pos (h1.symm.trans e)]; exact ⟨h1, h2, ry⟩
    · rw [if_neg e, if_neg (fun z => e (h1.trans z))]; exact ⟨h1, h2, h3⟩
theorem KT.put {H : Hp} {kvs : List (List Key × V)} {xs : List (List Key × Addr × Value)} (r : KT H kvs xs) (k : List Key) {b : Addr} {y : V} {u : Value} (hb : H b = some (.tup (k.map kV))) (ry : RelV y u) :
    KT H (putK kvs k y) (storedH xs k b u) := by
  have e : (kvs.any fun kv => decide (kv.1 = k)) = (atKey xs k).isSome := by
    rw [zeg, (r.val k).isSome_eq, Option.isSome_map]
  unfold putK storedH
  rw [e]
  by_cases q : (atKey xs k).isSome = true
  · rw [if_pos q, if_pos q]; exact r.repl k ry
  · rw [if_neg q, if_neg q]; exact Paired.snoc r ⟨rfl, hb, ry⟩
theorem KT.keeps {H H' : Hp} {kvs : List (List Key × V)} {xs : List (List Key × Addr × Value)} (r : KT H kvs xs) (ht : ∀ b ys, H b = some (.tup ys) → H' b = some (.tup ys)) : KT H' kvs xs :=
  Paired.mapP r fun _ _ z => ⟨z.1, ht _ _ z.2.1, z.2.2⟩
section
variable {P : Program} {w : World} {H : Hp} {h : Heap} {a : Addr}
theorem zlT {u : HO} (ok : HOk P w H h) (e : Rd H a u) : zbr P w H h a u := e.ok ok
theorem zk7 {kvs : List (Key × V)} (ok : HOk P w H h) (e : Rd H a (.dK kvs)) : kvs.length ≤ sizeLine ∧ (a == sysModules) = false ∧ ∃ vs, KV kvs vs ∧ h.DictOf (zbL P w) a vs :=
  show zbr P w H h a (.dK kvs) from zlT ok e
theorem zmU {kvs : List (Key × V)} (ok : HOk P w H h) (e : H a = some (.dK kvs)) : kvs.length ≤ sizeLine ∧ (a == sysModules) = false ∧ ∃ vs, KV kvs vs ∧ h.DictOf (zbL P w) a vs := zk7 ok (.inl e)
theorem ziA {ks : List Key} (ok : HOk P w H h) (e : H a = some (.tup (ks.map kV))) : (tupleKind (zbL P w)).is h ks a := by
  obtain ⟨_, its, r, o, h1, h2, n, h3⟩ := (show zbr P w H h a (.tup (ks.map kV)) from ok a _ e)
  exact ⟨o, its.toArray, n, h1, h2, h3, by simpa using zfM r⟩
theorem zk8 {kvs : List (List Key × V)} (ok : HOk P w H h) (e : Rd H a (.dT kvs)) : kvs.length ≤ sizeLine ∧ (a == sysModules) = false ∧
    ∃ xs, KT H kvs xs ∧ h.DictOfH (tupleKind (zbL P w)) a xs := by
  obtain ⟨z, y, xs, r, o, es, ep, h1, h2, h3, h4, h5⟩ := (show zbr P w H h a (.dT kvs) from zlT ok e)
  refine ⟨z, y, xs, r, o, es, ep, h1, h2, h3, h4, fun x hx => ?_, h5⟩
  have all : ∀ {l : List (List Key × V)} {m : List (List Key × Addr × Value)}, KT H l m → ∀ x ∈ m, (tupleKind (zbL P w)).is h x.1 x.2.1 := by
    intro l m q
    induction q with
    | nil => intro x hx; exact nomatch hx
    | @cons p q ps qs hq t ih =>
      intro x hx
      rcases List.mem_cons.mp hx with e | hx
      · subst e
        exact ziA ok (by rw [← hq.1]; exact hq.2.1)
      · exact ih x hx
  exact all r x hx
theorem zmV {kvs : List (List Key × V)} (ok : HOk P w H h) (e : H a = some (.dT kvs)) : kvs.length ≤ sizeLine ∧ (a == sysModules) = false ∧
    ∃ xs, KT H kvs xs ∧ h.DictOfH (tupleKind (zbL P w)) a xs := zk8 ok (.inl e)
end
def DGet (H : Hp) (a : Addr) (y : V) (r : Option V) : Prop :=
  (∃ kvs k, Rd H a (.dK kvs) ∧ y = kV k ∧ r = valV kvs k) ∨ ∃ kvs k b, Rd H a (.dT kvs) ∧ y = .ref b ∧ H b = some (.tup (k.map kV)) ∧ r = valV kvs k
def DPut (H : Hp) (a : Addr) (y v : V) (H' : Hp) : Prop :=
  (∃ kvs k, H a = some (.dK kvs) ∧ y = kV k ∧ kvs.length < sizeLine ∧ H' = upd H a (.dK (putK kvs k v))) ∨
  ∃ kvs k b, H a = some (.dT kvs) ∧ y = .ref b ∧ H b = some (.tup (k.map kV)) ∧ kvs.length < sizeLine ∧ H' = upd H a (.dT (putK kvs k v))
theorem DPut.k {H : Hp} {a : Addr} {kvs : List (Key × V)} {k : Key} {v : V} (e : H a = some (.dK kvs)) (hl : kvs.length < sizeLine) : DPut H a (kV k) v (upd H a (.dK (putK kvs k v))) := .inl ⟨kvs, k, e, rfl, hl, rfl⟩
section
variable {X : Cx} {pins : List (Addr × Obj)} {σ : St} {H : Hp} {s : Shared} {a : Addr} {y v : V} {u r : Value} {o : Option V} {A : Around} {E : Value → Shared → Prop}
theorem Inv.big (I : Inv X pins σ H s) : sysModules < s.heap.objs.size := by
  have h : mainGlobals < s.heap.objs.size := (I.mod.glob.keeps I.bk).lt
  exact Nat.lt_trans (by decide) h
theorem ziB {Q : Value → Shared → Prop} (hu : A.units + 1 < cLine) (I : Inv X pins σ H s) (g : DGet H a y (some v)) (ry : RelV y u) (h : ∀ w' s', Inv X pins σ H s' → RelV v w' → Q w' s') :
    wpAny (model X.prog X.w) A (getItem (.ref a) u) Q E s := by
  rcases g with ⟨kvs, k, e, ey, l⟩ | ⟨kvs, k, b, e, ey, eb, l⟩
  · subst ey
    obtain ⟨z, hd, vs, rel, dd⟩ := zk7 I.hok e
    obtain ⟨w', hw, rw'⟩ := RelO.some_of (v := v) (o := valueAt vs k) (by rw [l]; exact rel.val k)
    exact wpAny_getItem_of (zk6 ry) dd.mapOf hw (h w' _ (I.tok _) rw')
  · subst ey
    cases (show u = Value.ref b from ry)
    obtain ⟨z, hd, xs, rel, dd⟩ := zk8 I.hok e
    obtain ⟨w', hw, rw'⟩ := RelO.some_of (v := v) (o := (atKey xs k).map (·.2)) (by rw [l]; exact rel.val k)
    obtain ⟨p, hp, hp2⟩ := Option.map_eq_some_iff.mp hw
    refine wpAny_getItem_heap (tupleKind_room_in1 hu) (ziA I.hok eb) dd hp ?_
    rw [hp2]
    exact h w' _ (I.tok _) rw'
theorem ziC {h' : Heap} {t' : Nat} {ob : HO} (I : Inv X pins σ H s) (mu : Mut (H a)) (hs : Heap.SameBut a s.heap h') (he : ∃ q, h'.get? a = some q) (new : zbr X.prog X.w (upd H a ob) h' a ob) :
    Inv X pins σ (upd H a ob) { s with heap := h', toks := t' } :=
  I.write (x := a) (e := a) mu (.inl rfl) (fun b q hb z => (hs.2 b hb).trans z) he new
theorem zlU {P : Program} {w : World} {H' : Hp} {h' : Heap} {kvs : List (Key × V)} {vs : List (Key × Value)} (z : kvs.length ≤ sizeLine) (hd : (a == sysModules) = false) (rel : KV kvs vs) (dd : h'.DictOf (zbL P w) a vs) :
    zbr P w H' h' a (.dK kvs) := ⟨z, hd, vs, rel, dd⟩
theorem ziD {H' : Hp} {Q : Unit → Shared → Prop} (hu : A.units + 1 < cLine) (I : Inv X pins σ H s) (g : DPut H a y v H') (ry : RelV y u) (rv : RelV v r) (h : ∀ s', Inv X pins σ H' s' → Q () s') :
    wpAny (model X.prog X.w) A (setItem (.ref a) u r) Q E s := by
  rcases g with ⟨kvs, k, e, ey, l, eH⟩ | ⟨kvs, k, b, e, ey, eb, l, eH⟩
  · subst ey eH
    obtain ⟨z, hd, vs, rel, dd⟩ := zmU I.hok e
    have hz : vs.length ≤ sizeLine := by rw [← rel.length]; exact z
    have hl : (putK kvs k v).length ≤ sizeLine := by have := zep kvs k v; omega
    refine wpAny_setItem_pairs (hsz := hz) (zk6 ry) dd fun h' dd' hs => h _ ?_
    have he : ∃ q, h'.get? a = some q := let ⟨q, _, _, hq, _⟩ := dd'; ⟨q, hq⟩
    exact ziC I (by rw [e]; exact True.intro) hs he (zlU hl hd (rel.put k rv) dd')
  · subst ey eH
    cases (show u = Value.ref b from ry)
    obtain ⟨z, hd, xs, rel, dd⟩ := zmV I.hok e
    have hz : xs.length ≤ sizeLine := by rw [← Paired.length rel]; exact z
    have hl : (putK kvs k v).length ≤ sizeLine := by have := zep kvs k v; omega
    refine wpAny_setItem_heap (hsz := hz) (tupleKind_room_in1 hu) (ziA I.hok eb) dd fun h' dd' hs => h _ ?_
    obtain ⟨q, es, ep, hq, h2, h3, h4, _, h5⟩ := dd'
    refine ziC I (by rw [e]; exact True.intro) hs ⟨q, hq⟩ ⟨hl, hd, _, (rel.put k eb rv).keeps fun c ys ec => ?_, q, es, ep, hq, h2, h3, h4, h5⟩
    rw [zah (zhK ec e (fun z => nomatch z))]
    exact ec
end
section
variable {X : Cx} {pins : List (Addr × Obj)} {σ : St} {H : Hp} {s : Shared} {a : Addr} {kvs : List (Key × V)} {k : Key} {u : Value} {A : Around} {E : Value → Shared → Prop}
end
def NoSl (i : Expr) : Prop := ∀ ov iv, subscripted i false ov iv = operate [ov, iv] (getItem ov iv)
theorem zk9 {prog : Program} {w : World} {A : Around} {E : Value → Shared → Prop} {s : Shared} {env : Env} {value slice : Expr} {pos : Pos} {T id : String} {Q : Value → Shared → Prop}
    (hl : typeLookup (.type T) "__getitem__" = pure (some (.builtin id))) (hs : NoSl slice)
    (h : wpAny (model prog w) A (eval value env) (fun o s₁ => wpAny (model prog w) A (eval slice env) (fun i s₂ => s₂.TypeIs o T ∧ wpAny (model prog w) A (getItem o i) Q E s₂) E s₁) E s) :
    wpAny (model prog w) A (eval (.Subscript value slice pos) env) Q E s := by
  refine Subscript_ (wpAny_mono h (fun o s₁ h₁ => wpAny_mono h₁ (fun i s₂ h₂ => ?_) fun _ _ x => x) fun _ _ x => x)
  obtain ⟨hT, h₂⟩ := h₂
  unfold subscriptTail
  refine wpAny_bind ?_
  rw [getitemInPython_of_ne hT.not_modules]
  refine wpAny_bind (wpAny_specialOf hT hl ?_)
  have fin : wpAny (model prog w) A (subscripted slice false o i) (fun r s₃ => wpAny (model prog w) A (letTemporaryGo value o r >>= fun _ => pure r) Q E s₃) E s₂ := by
    rw [hs o i]
    exact wpAny_operating (wpAny_mono h₂ (fun r s₃ h₃ => wpAny_bind (wpAny_letTemporaryGo (wpAny_pure h₃))) fun _ _ x => x)
  first
    | exact wpAny_pure (wpAny_bind fin)
    | exact wpAny_bind (wpAny_pure (wpAny_bind fin))
    | exact wpAny_bind fin
theorem zgx {X : Cx} {pins : List (Addr × Obj)} {σ : St} {H : Hp} {s : Shared} {a : Addr} {y : V} {o : Option V} (I : Inv X pins σ H s) (g : DGet H a y o) : s.TypeIs (.ref a) "dict" := by
  rcases g with ⟨kvs, k, e, _, _⟩ | ⟨kvs, k, b, e, _, _, _⟩
  · obtain ⟨_, _, vs, _, dd⟩ := zk7 I.hok e
    exact dd.typeIs
  · obtain ⟨_, _, xs, _, dd⟩ := zk8 I.hok e
    exact dd.typeIs
def zmW (td ty : TE) : TE := fun σ H Q => td σ H fun x H1 => ty σ H1 fun y H2 => ∃ a v, x = .ref a ∧ DGet H2 a y (some v) ∧ Q v H2
def zmX (td ty tv : TE) : TS := fun D σ H => tv σ H fun v H1 => td σ H1 fun x H2 => ty σ H2 fun y H3 => ∃ a H4, x = .ref a ∧ DPut H3 a y v H4 ∧ D.nx σ H4
section
variable {X : Cx} {o i e value : Expr} {pos pos' tpos : Pos} {td ty tv : TE}
theorem zla (hu : X.A.units + 1 < cLine) (ho : PE X o td) (hi : PE X i ty) (hs : NoSl i) : PE X (.Subscript o i pos) (zmW td ty) := by
  with_unfolding_all
    intro pins s σ H Q I h
    refine zk9 PySem.F.slot_dict_getitem.lookup hs (thn (ho pins s σ H _ I h) fun u s1 ⟨x, H1, I1, rx, q1⟩ => thn (hi pins s1 σ H1 _ I1 q1) fun iv s2 ⟨y, H2, I2, ry, a, v, ex, g, q2⟩ => ?_)
    subst ex
    obtain rfl : u = Value.ref a := rx
    exact ⟨zgx I2 g, ziB hu I2 g ry fun w' s3 I3 rw' => ⟨v, H2, I3, rw', q2⟩⟩
theorem zlb (hu : X.A.units + 1 < cLine) (ho : PE X o td) (hi : PE X i ty) (hv : PE X value tv) (hs : swapsWith value (some (.Subscript o i pos')) pos.line X.env = pure false) :
    PS X (.Assign [.Subscript o i pos'] value pos) (zmX td ty tv) := by
  with_unfolding_all
    intro pins s σ H D I h
    refine wpAny_Assign_Subscript (thn (hv pins s σ H _ I h) fun r s1 ⟨v, H1, I1, rv, q1⟩ => thn (ho pins s1 σ H1 _ I1 q1) fun u s2 ⟨x, H2, I2, rx, q2⟩ => thn (hi pins s2 σ H2 _ I2 q2) fun iv s3 ⟨y, H3, I3, ry, a, H4, ex, g, q3⟩ => ?_) hs
    subst ex
    obtain rfl : u = Value.ref a := rx
    exact ziD hu I3 g ry rv fun s4 I4 => ⟨σ, H4, I4, q3⟩
end
theorem zjL {P : Program} {w : World} {H : Hp} (h : Heap) (hb : sysModules < h.objs.size) : zbr P w H (h.push { cls := .type "dict", data := .dict #[] }) h.objs.size (.dK []) :=
  ⟨Nat.zero_le _, beq_eq_false_iff_ne.mpr (Ne.symm (Nat.ne_of_lt hb)), [], .nil, Heap.DictOf.new h⟩
def zlV : TE := fun _ H Q => ∀ p, H p = none → Q (.ref p) (upd H p (.dK []))
section
variable {X : Cx} {pos : Pos}
theorem zjM : PE X (.Dict [] [] pos) zlV := by
  with_unfolding_all
    exact fun pins s σ H Q I h =>
      wpAny_Dict_empty ⟨.ref s.heap.objs.size, _, I.laid (a := s.heap.objs.size) (o := .dK []) (t' := s.toks) (fun _ _ q => Heap.get?_push_of_some _ q) (Nat.le_refl _) (zjL s.heap I.big), rfl, h _ (I.hok.fresh (Nat.le_refl _))⟩
end
structure M1 (X : Cx) (o : Expr) (m : Str) (apos : Pos) (e : Expr) (cpos : Pos) : Prop where
  base : attributeBase o m X.env (eval o X.env) = eval o X.env
  few : ((backTo cpos (starEach [e] X.env)).all (fun x => !x.1) && (backToKw cpos (keywordEach [] X.env)).all (fun x => x.1.isSome)
    && decide (([e] : List Expr).length + ([] : List Keyword).length + (if ([] : List Keyword).isEmpty then 0 else 1) < 30)) = true
  line : (apos.endLine == cpos.line) = true
  trees : backTo cpos (starEach [e] X.env) = [(false, eval e X.env)]
structure M2 (X : Cx) (o : Expr) (m : Str) (apos : Pos) (e f : Expr) (cpos : Pos) : Prop where
  base : attributeBase o m X.env (eval o X.env) = eval o X.env
  few : ((backTo cpos (starEach [e, f] X.env)).all (fun x => !x.1) && (backToKw cpos (keywordEach [] X.env)).all (fun x => x.1.isSome)
    && decide (([e, f] : List Expr).length + ([] : List Keyword).length + (if ([] : List Keyword).isEmpty then 0 else 1) < 30)) = true
  line : (apos.endLine == cpos.line) = true
  trees : backTo cpos (starEach [e, f] X.env) = [(false, eval e X.env), (false, eval f X.env)]
section
variable {X : Cx} {pins : List (Addr × Obj)} {σ : St} {H : Hp} {s : Shared} {a : Addr} {y d : V} {u r : Value} {o : Option V} {A : Around} {E : Value → Shared → Prop}
end
section
variable {X : Cx} {o e f : Expr} {apos cpos : Pos} {td ty tx : TE}
end
section
variable {X : Cx} {pins : List (Addr × Obj)} {σ : St} {H : Hp} {s : Shared} {a : Addr} {kvs : List (Key × V)} {A : Around} {E : Value → Shared → Prop}
end
section
variable {X : Cx} {pins : List (Addr × Obj)} {σ : St} {H : Hp} {s : Shared} {a : Addr} {y : V} {u : Value} {A : Around} {E : Value → Shared → Prop}
end
end L2
namespace HT
open PySem PyProof.Rows
def lexLt : List Int → List Int → Bool
  | [], [] => false
  | [], _ :: _ => true
  | _ :: _, [] => false
  | x :: xs, y :: ys => if x = y then lexLt xs ys else decide (x < y)
theorem lexLt_cons (x y : Int) (xs ys : List Int) : lexLt (x :: xs) (y :: ys) = if x = y then lexLt xs ys else decide (x < y) := rfl
theorem lexLt_nil_nil : lexLt [] [] = false := rfl
section
open PySem.SeqAt
open PySem.AutoSeq1 (wpAny_loadPart')
open PySem.MeetsSeq PySem.MeetsSeq2 PySem.MeetsSeq3
end
section
variable {prog : Program} {w : World} {A : Around} {E : Value → Shared → Prop} {s : Shared}
theorem cat_tup {t b : Addr} {vs ws : List Value} {Q : Value → Shared → Prop} (ht : IsTup s.heap t vs.toArray) (hb : IsTup s.heap b ws.toArray) (hv : vs ≠ [])
    (h1 : ws = [] → Q (.ref t) s) (h2 : ws ≠ [] → Q (.ref s.heap.objs.size) { s with heap := s.heap.push { cls := .type "tuple", data := .seq (vs ++ ws).toArray } })
    (hsz : vs.length + ws.length ≤ sizeLine) : wpAny (model prog w) A (binaryOp .Add (.ref t) (.ref b)) Q E s := by
  obtain ⟨⟨cls, dd, data, sl⟩, ho, hc, n, hd⟩ := id ht
  obtain ⟨⟨cls2, dd2, data2, sl2⟩, ho2, hc2, n2, hd2⟩ := id hb
  simp only at hc hd hc2 hd2
  subst hc hd hc2 hd2
  have e : vs.toArray ++ ws.toArray = (vs ++ ws).toArray := by simp
  by_cases hw : ws = []
  · exact concat_meets ⟨_, ho, rfl⟩ ⟨_, ho2, rfl⟩ noFill_tuple_add seq_tuple_add PySem.F.slot_tuple_add PySem.F.entry_tuple_add (PySem.F.args_tuple_add_2 _ _)
      (tuple_addW1 t b vs.toArray ws.toArray n n2 dd dd2 sl sl2 (by simpa using hv) (by simp [hw])) ⟨ho, ho2, h1 hw⟩
  · refine concat_meets ⟨_, ho, rfl⟩ ⟨_, ho2, rfl⟩ noFill_tuple_add seq_tuple_add PySem.F.slot_tuple_add PySem.F.entry_tuple_add (PySem.F.args_tuple_add_2 _ _)
      (tuple_addW2 t b vs.toArray ws.toArray n n2 dd dd2 sl sl2 (by simpa using hv) (by simpa using hw) (by rw [List.size_toArray, List.size_toArray]; exact hsz)) ⟨ho, ho2, ?_⟩
    rw [e]
    exact h2 hw
def sIx (n d : Nat) : Option Int → Nat
  | none => d
  | some v => if v < 0 then (v + (n : Int)).toNat else min v.toNat n
theorem sIx_none (n d : Nat) : sIx n d none = d := rfl
theorem sIx_nat (n d k : Nat) : sIx n d (some (k : Int)) = min k n := by
  show (if (k : Int) < 0 then ((k : Int) + (n : Int)).toNat else min (k : Int).toNat n) = min k n
  rw [if_neg (by omega), Int.toNat_natCast]
theorem zlW (n d : Nat) (hd : d ≤ n) (o : Option Int) : sIx n d o ≤ n := by
  cases o with
  | none => exact hd
  | some v =>
    show (if v < 0 then (v + (n : Int)).toNat else min v.toNat n) ≤ n
    by_cases hv : v < 0
    · rw [if_pos hv]; omega
    · rw [if_neg hv]; exact Nat.min_le_right _ _
theorem ziE (v : Int) (n d : Nat) : (if v < 0 then max (v + (n : Int)) 0 else min v (n : Int)) = ((sIx n d (some v) : Nat) : Int) := by
  show (if v < 0 then max (v + (n : Int)) 0 else min v (n : Int)) = (((if v < 0 then (v + (n : Int)).toNat else min v.toNat n) : Nat) : Int)
  by_cases hv : v < 0
  · simp only [if_pos hv]; omega
  · simp only [if_neg hv]; omega
theorem zhQ (lo hi : Option Int) (n : Nat) : Builtin.Slice.sliceAdjust lo hi 1 (n : Int) = (((sIx n 0 lo : Nat) : Int), ((sIx n n hi : Nat) : Int)) := by
  have h1 : ¬ ((1 : Int) < 0) := by omega
  unfold Builtin.Slice.sliceAdjust
  simp only [h1, if_false]
  refine Prod.ext ?_ ?_
  · cases lo with
    | none => rfl
    | some v => exact ziE v n 0
  · cases hi with
    | none => rfl
    | some v => exact ziE v n n
theorem zhR (i j : Nat) : Builtin.Slice.slicePlaces (i : Int) (j : Int) 1 = j - i := by
  unfold Builtin.Slice.slicePlaces
  have h1 : (1 : Int) > 0 := by omega
  simp only [h1, if_true, Int.ediv_one]
  split <;> omega
theorem ze3 {v : Value} {o : Option Int} {Q : Option Int → Shared → Prop} (p : IsPart v o) (h : Q o s) : wpAny (model prog w) A (Builtin.Slice.slicePartIndex v) Q E s := by
  cases p with
  | none => exact slicePart_none h
  | int i t => exact slicePart_int h
theorem zea {sl : Addr} {vl vu : Value} {lo hi : Option Int} {n : Nat} {Q : Int × Int × Nat → Shared → Prop} (hs : s.heap.IsSliceOf sl vl vu .none) (pl : IsPart vl lo) (pu : IsPart vu hi)
    (h : Q (((sIx n 0 lo : Nat) : Int), 1, sIx n n hi - sIx n 0 lo) s) : wpAny (model prog w) A (Builtin.Slice.sliceApplied (.ref sl) (pure (n : Int))) Q E s := by
  obtain ⟨os, hos, hcs, hds⟩ := id hs
  unfold Builtin.Slice.sliceApplied Builtin.Slice.sliceFields
  refine wpAny_bind (wpAny_bind (wpAny_field hos hds (x := vl) rfl (wpAny_bind (wpAny_field hos hds (x := vu) rfl (wpAny_bind (wpAny_field hos hds (x := .none) rfl (wpAny_pure ?_)))))))
  refine wpAny_bind (slicePart_none ?_)
  show wpAny _ _ (if ((1 : Int) == 0) = true then _ else _) _ _ s
  rw [if_neg (by decide)]
  refine wpAny_bind (ze3 pl (wpAny_bind (ze3 pu (wpAny_bind (wpAny_pure ?_)))))
  show wpAny _ _ (match Builtin.Slice.sliceAdjust lo hi 1 (n : Int) with | (lo, hi) => pure (lo, (1 : Int), Builtin.Slice.slicePlaces lo hi 1)) _ _ s
  rw [zhQ lo hi n]
  show wpAny _ _ (pure (((sIx n 0 lo : Nat) : Int), (1 : Int), Builtin.Slice.slicePlaces ((sIx n 0 lo : Nat) : Int) ((sIx n n hi : Nat) : Int) 1)) _ _ s
  rw [zhR]
  exact wpAny_pure h
theorem zjN (xs : Array Value) (i k : Nat) : ((List.range k).filterMap fun (m : Nat) => xs[((i : Int) + (m : Int) * 1).toNat]?).toArray = ((xs.toList.drop i).take k).toArray := by
  have e : (fun (m : Nat) => xs[((i : Int) + (m : Int) * 1).toNat]?) = fun m => xs[i + m]? := by
    funext m
    have : ((i : Int) + (m : Int) * 1).toNat = i + m := by omega
    rw [this]
  rw [e]
  have := pick_run xs i k
  rw [List.filterMap_map] at this
  have e2 : ((fun x => xs[x]?) ∘ fun x => i + x) = fun m => xs[i + m]? := rfl
  rw [e2] at this
  rw [this]
theorem getItem_tuple_cut {t sl : Addr} {items : Array Value} {vl vu : Value} {lo hi : Option Int} {Q : Value → Shared → Prop} (ht : IsTup s.heap t items) (hs : s.heap.IsSliceOf sl vl vu .none) (pl : IsPart vl lo) (pu : IsPart vu hi)
    (hw : ¬ (sIx items.size 0 lo = 0 ∧ sIx items.size items.size hi = items.size))
    (h : Q (.ref s.heap.objs.size) { s with heap := s.heap.push { cls := .type "tuple", data := .seq ((items.toList.drop (sIx items.size 0 lo)).take (sIx items.size items.size hi - sIx items.size 0 lo)).toArray } })
    (hsz : items.size ≤ sizeLine) : wpAny (model prog w) A (getItem (.ref t) (.ref sl)) Q E s := by
  have htake : sizeOk (.seq ((items.toList.drop (sIx items.size 0 lo)).take (sIx items.size items.size hi - sIx items.size 0 lo)).toArray) := by
    show ((items.toList.drop (sIx items.size 0 lo)).take (sIx items.size items.size hi - sIx items.size 0 lo)).toArray.size ≤ sizeLine
    rw [List.size_toArray, List.length_take, List.length_drop, Array.length_toList]
    omega
  have hj : sIx items.size items.size hi ≤ items.size := zlW _ _ (Nat.le_refl _) hi
  obtain ⟨os, hos, hcs, hds⟩ := id hs
  have hTs : s.TypeIs (.ref sl) "slice" := ⟨os, hos, hcs⟩
  unfold getItem
  try with_reducible refine wpAny_holding ?_
  first | refine wpAny_bind (wpAny_pure ?_) | skip
  refine wpAny_bind (wpAny_sequenceKey ht.typeIs (by decide) ?_)
  refine wpAny_bind (wpAny_callSpecial?_slot (name := Str.ofString "__getitem__") ht.typeIs PyProof.Rows.slot_tuple_getitem
    (wpAny_call_entry PyProof.Rows.slot_tuple_getitem ht.typeIs entry_tuple_getitem ?_ (args_tuple_getitem _ _)))
  show wpAny _ _ (Builtin.Tuple.tupleItemsOf (.ref t) >>= _) _ _ s
  refine wpAny_bind (tupleItemsOf_ ht ?_)
  refine wpAny_bind (wpAny_typeOf hTs ?_)
  rw [if_pos (by decide)]
  refine wpAny_bind (zea hs pl pu ?_)
  have hno : ¬ ((((sIx items.size 0 lo : Nat) : Int) == 0 && (1 : Int) == 1 && (sIx items.size items.size hi - sIx items.size 0 lo) == items.size) = true) := by
    intro q
    rw [Bool.and_eq_true, Bool.and_eq_true] at q
    have q1 : ((sIx items.size 0 lo : Nat) : Int) = 0 := eq_of_beq q.1.1
    have q2 : sIx items.size items.size hi - sIx items.size 0 lo = items.size := eq_of_beq q.2
    exact hw ⟨by omega, by omega⟩
  show wpAny _ _ (if (((sIx items.size 0 lo : Nat) : Int) == 0 && (1 : Int) == 1 && (sIx items.size items.size hi - sIx items.size 0 lo) == items.size) = true then _ else _) _ _ s
  rw [if_neg hno, zjN]
  first
    | exact wpAny_bind (m := Builtin.Tuple.tupleExact _) (wpAny_newObj_type (wpAny_pure ⟨_, rfl, wpAny_pure h⟩) htake)
    | exact wpAny_bind (m := Builtin.Tuple.tupleExact _) (wpAny_newObj_type (wpAny_bind (wpAny_pure (wpAny_pure ⟨_, rfl, wpAny_pure h⟩))) htake)
    | exact wpAny_bind (wpAny_bind (m := Builtin.Tuple.tupleExact _) (wpAny_newObj_type (wpAny_pure (wpAny_pure ⟨_, rfl, wpAny_pure h⟩)) htake))
    | exact wpAny_bind (wpAny_bind (m := Builtin.Tuple.tupleExact _) (wpAny_newObj_type (wpAny_pure ⟨_, rfl, wpAny_pure h⟩) htake))
end
end HT
namespace L2
open PySem PySem.Spec PyProof.Rows
abbrev TO := St → Hp → (Option Int → Hp → Prop) → Prop
def PO (X : Cx) (e : Option Expr) (t : TO) : Prop :=
  ∀ (pins : List (Addr × Obj)) (s : Shared) (σ : St) (H : Hp) (Q : Option Int → Hp → Prop), Inv X pins σ H s → t σ H Q →
    wpAny (model X.prog X.w) X.A (evalPart e X.env) (fun u s' => ∃ o H', Inv X pins σ H' s' ∧ IsPart u o ∧ Q o H') X.xe s
def ziF : TO := fun _ H Q => Q none H
def zlX (t : TE) : TO := fun σ H Q => t σ H fun x H1 => ∃ i, x = .int i ∧ Q (some i) H1
section
variable {X : Cx} {e : Expr} {te : TE} {lo hi : Option Expr} {tl th : TO} {pos p2 : Pos}
theorem zb7 : PO X none ziF := by
  intro pins s σ H Q I h
  rw [evalPart_none]
  exact wpAny_pure ⟨none, H, I, .none, h⟩
theorem zbM (h : PE X e te) : PO X (some e) (zlX te) := by
  with_unfolding_all
    intro pins s σ H Q I hw
    rw [evalPart_some]
    refine thn (h pins s σ H _ I hw) fun u s1 ⟨x, H1, I1, r1, q1⟩ => ?_
    obtain ⟨i, rfl, q⟩ := q1
    obtain ⟨t, rfl⟩ := r1
    exact ⟨some i, H1, I1, .int i t, q⟩
def SlR (X : Cx) (r : V → Option Int → Option Int → Hp → VK → Prop) : Prop :=
  ∀ (pins : List (Addr × Obj)) (s : Shared) (σ : St) (H : Hp) (x : V) (v vl vu : Value) (lo hi : Option Int) (sl : Addr) (Q : VK), Inv X pins σ H s → RelV x v → s.heap.IsSliceOf sl vl vu .none → IsPart vl lo → IsPart vu hi → r x lo hi H Q →
    ∃ T id, typeLookup (.type T) "__getitem__" = pure (some (.builtin id)) ∧ s.TypeIs v T ∧ wpAny (model X.prog X.w) X.A (getItem v (.ref sl)) (EP X pins σ Q) X.xe s
def tSl (r : V → Option Int → Option Int → Hp → VK → Prop) (te : TE) (tl th : TO) : TE := fun σ H Q => te σ H fun x H1 => tl σ H1 fun l H2 => th σ H2 fun u H3 => r x l u H3 Q
theorem zbv {r : V → Option Int → Option Int → Hp → VK → Prop} (hr : SlR X r) (he : PE X e te) (hl : PO X lo tl) (hu : PO X hi th) : PE X (.Subscript e (.Slice lo hi none p2) pos) (tSl r te tl th) := by
  with_unfolding_all
    intro pins s σ H Q I h
    refine Subscript_ (thn (he pins s σ H _ I h) fun v s1 ⟨x, H1, I1, r1, q1⟩ => ?_)
    refine wpAny_Slice (thn (hl pins s1 σ H1 _ I1 q1) fun vl s2 ⟨l, H2, I2, pl, q2⟩ => thn (hu pins s2 σ H2 _ I2 q2) fun vu s3 ⟨u, H3, I3, pu, q3⟩ => ?_)
    rw [evalPart_none]
    refine wpAny_pure ?_
    have I4 : Inv X pins σ H3 { s3 with heap := s3.heap.push { cls := .type "slice", data := .fields #[vl, vu, .none] } } := I3.kept (t' := s3.toks) fun b ob q => Heap.get?_push_of_some _ q
    obtain ⟨T, id, hT, ht, hg⟩ := hr pins { s3 with heap := s3.heap.push { cls := .type "slice", data := .fields #[vl, vu, .none] } } σ H3 x v vl vu l u s3.heap.objs.size Q I4 r1 (Heap.IsSliceOf.new ..) pl pu q3
    show wpAny (model X.prog X.w) X.A (subscriptTail e (.Slice lo hi none p2) v (.ref s3.heap.objs.size)) (EP X pins σ Q) X.xe { s3 with heap := s3.heap.push { cls := .type "slice", data := .fields #[vl, vu, .none] } }
    exact tail_any (ops := [.ref s3.heap.objs.size, v]) ht hT hg (by with_unfolding_all rfl)
def cutV (xs : List V) (lo hi : Option Int) : List V := (xs.drop (HT.sIx xs.length 0 lo)).take (HT.sIx xs.length xs.length hi - HT.sIx xs.length 0 lo)
theorem zci (xs : List V) (lo hi : Option Int) : (cutV xs lo hi).length ≤ xs.length := by
  unfold cutV
  rw [List.length_take, List.length_drop]
  omega
def rSlT (K : PySem.W.Frag) : V → Option Int → Option Int → Hp → VK → Prop := fun x lo hi H Q => ∃ a xs, x = .ref a ∧ SqT K H a xs ∧
  ¬ (HT.sIx xs.length 0 lo = 0 ∧ HT.sIx xs.length xs.length hi = xs.length) ∧ ∀ p, H p = none → Q (.ref p) (upd H p (.tup (cutV xs lo hi)))
theorem zlY : SlR X (rSlT X.K) := by
  intro pins s σ H x v vl vu lo hi sl Q I rx hs pl pu h
  obtain ⟨a, xs, rfl, hx, hw, q⟩ := h
  cases rx
  obtain ⟨its, r, ht, hz⟩ := I.tuple hx
  have hlen : its.toArray.size = xs.length := by rw [List.size_toArray]; exact r.length.symm
  refine ⟨"tuple", _, PyProof.Rows.slot_tuple_getitem.lookup, ht.typeIs, ?_⟩
  refine HT.getItem_tuple_cut ht hs pl pu (by rw [hlen]; exact hw) ?_ (by rw [hlen]; exact hz)
  rw [hlen]
  refine ⟨.ref s.heap.objs.size, _, I.laid (t' := s.toks) (o := .tup (cutV xs lo hi)) (fun b ob q => Heap.get?_push_of_some _ q) (Nat.le_refl _) ?_, rfl, q _ (I.hok.fresh (Nat.le_refl _))⟩
  exact ⟨Nat.le_trans (zci xs lo hi) hz, _, (r.drop (HT.sIx xs.length 0 lo)).take (HT.sIx xs.length xs.length hi - HT.sIx xs.length 0 lo), IsTup.new _ _⟩
def zmY (K : PySem.W.Frag) : R2 := fun x y H Q => ∃ a b xs ys, x = .ref a ∧ y = .ref b ∧ SqT K H a xs ∧ SqT K H b ys ∧ xs ≠ [] ∧ xs.length + ys.length ≤ sizeLine ∧
  (ys = [] → Q (.ref a) H) ∧ (ys ≠ [] → ∀ p, H p = none → Q (.ref p) (upd H p (.tup (xs ++ ys))))
theorem Vals.nil_iff {xs : List V} {us : List Value} (r : Vals xs us) : us = [] ↔ xs = [] := by
  cases r with
  | nil => simp
  | cons _ _ => simp
theorem zlc : OpR X (binaryOp .Add) (zmY X.K) := by
  intro pins s σ H x y v u Q I rx ry h
  obtain ⟨a, b, xs, ys, rfl, rfl, ha, hb, hx, hz, q1, q2⟩ := h
  cases rx
  cases ry
  obtain ⟨its, r1, p1, _⟩ := I.tuple ha
  obtain ⟨its2, r2, p2, _⟩ := I.tuple hb
  refine HT.cat_tup p1 p2 (fun z => hx (r1.nil_iff.mp z)) (fun z => ⟨.ref a, H, I, rfl, q1 (r2.nil_iff.mp z)⟩) (fun z => ?_) (by rw [← r1.length, ← r2.length]; exact hz)
  refine ⟨.ref s.heap.objs.size, _, I.laid (t' := s.toks) (o := .tup (xs ++ ys)) (fun b ob q => Heap.get?_push_of_some _ q) (Nat.le_refl _) ?_, rfl, q2 (fun w => z (r2.nil_iff.mpr w)) _ (I.hok.fresh (Nat.le_refl _))⟩
  exact ⟨by rw [List.length_append]; exact hz, _, r1.append r2, IsTup.new _ _⟩
end
end L2
namespace L2
open PySem PySem.Spec PyProof.Rows
def ixN (n : Nat) (i : Int) : Option Nat := if 0 ≤ i then (if i < n then some i.toNat else none) else if -(n : Int) ≤ i then some (i + n).toNat else none
def atI {α : Type} (xs : List α) (i : Int) : Option α := (ixN xs.length i).bind fun j => xs[j]?
theorem zgy {n : Nat} {i : Int} {j : Nat} (h : ixN n i = some j) : seqIndex? i n = some j ∧ j < n ∧ -(n : Int) ≤ i ∧ i < n := by
  unfold ixN at h
  by_cases h0 : 0 ≤ i
  · rw [if_pos h0] at h
    by_cases h1 : i < n
    · rw [if_pos h1] at h
      have e : i.toNat = j := Option.some.inj h
      exact ⟨by rw [seqIndex_of h0 h1, e], by omega, by omega, h1⟩
    · rw [if_neg h1] at h; cases h
  · rw [if_neg h0] at h
    by_cases h1 : -(n : Int) ≤ i
    · rw [if_pos h1] at h
      have e : (i + n).toNat = j := Option.some.inj h
      exact ⟨by rw [seqIndex_neg (by omega) h1, e], by omega, h1, by omega⟩
    · rw [if_neg h1] at h; cases h
theorem ziG {α : Type} {xs : List α} {i : Int} {v : α} (h : atI xs i = some v) : ∃ j, seqIndex? i xs.length = some j ∧ xs[j]? = some v ∧ j < xs.length ∧ -(xs.length : Int) ≤ i ∧ i < xs.length := by
  unfold atI at h
  cases e : ixN xs.length i with
  | none => rw [e] at h; cases h
  | some j =>
    rw [e] at h
    obtain ⟨h1, h2, h3, h4⟩ := zgy e
    exact ⟨j, h1, h, h2, h3, h4⟩
theorem zdN {α : Type} {xs : List α} {j : Nat} {v : α} (h : xs[j]? = some v) : atI xs (j : Int) = some v := by
  have hj : j < xs.length := (List.getElem?_eq_some_iff.mp h).1
  have e : ixN xs.length (j : Int) = some j := by
    unfold ixN
    rw [if_pos (by omega), if_pos (by omega)]; simp
  unfold atI; rw [e]; exact h
theorem zeh {α : Type} (xs : List α) (v : α) : atI (xs ++ [v]) (-1) = some v := by
  have hl : (xs ++ [v]).length = xs.length + 1 := by simp
  have e : ixN (xs ++ [v]).length (-1) = some xs.length := by
    unfold ixN
    rw [hl, if_neg (by decide), if_pos (by omega)]
    congr 1
    omega
  unfold atI
  rw [e]
  show (xs ++ [v])[xs.length]? = some v
  simp
def zld (b : Expr) : Prop := ∀ o i, subscripted b false o i = operate [o, i] (getItem o i)
def IxR (X : Cx) (r : R2) : Prop :=
  ∀ (value slice : Expr) (pins : List (Addr × Obj)) (s : Shared) (σ : St) (H : Hp) (x y : V) (v u : Value) (Q : VK), Inv X pins σ H s → RelV x v → RelV y u → r x y H Q →
    subscripted slice false v u = operate [v, u] (getItem v u) → wpAny (model X.prog X.w) X.A (subscriptTail value slice v u) (EP X pins σ Q) X.xe s
def MtR (X : Cx) (id : String) (r : V → List V → Hp → VK → Prop) : Prop :=
  ∀ (pins : List (Addr × Obj)) (s : Shared) (σ : St) (H : Hp) (x : V) (xs : List V) (v : Value) (us : List Value) (Q : VK), Inv X pins σ H s → RelV x v → Vals xs us → r x xs H Q →
    wpAny (model X.prog X.w) X.A (call (.builtin id) (v :: us)) (EP X pins σ Q) X.xe s
section
variable {X : Cx} {a b : Expr} {ta tb : TE} {pos : Pos}
theorem zaq {r : R2} (hr : IxR X r) (ha : PE X a ta) (hb : PE X b tb) (hs : zld b) : PE X (.Subscript a b pos) (tOp r ta tb) := by
  with_unfolding_all
    intro pins s σ H Q I h
    exact Subscript_ (binT ha hb I h fun v u s2 x y H2 I2 rx ry q => hr a b pins s2 σ H2 x y v u Q I2 rx ry q (hs _ _))
def rIxL (K : PySem.W.Frag) : R2 := fun x y H Q => ∃ p xs i v, x = .ref p ∧ y = .int i ∧ SqL K H p xs ∧ atI xs i = some v ∧ Q v H
def rIxT (K : PySem.W.Frag) : R2 := fun x y H Q => ∃ p xs i v, x = .ref p ∧ y = .int i ∧ SqT K H p xs ∧ atI xs i = some v ∧ Q v H
theorem zaZ : IxR X (rIxL X.K) := by
  intro value slice pins s σ H x y v u Q I rx ry h hs
  obtain ⟨p, xs, i, z, rfl, rfl, hq, he, q⟩ := h
  cases rx
  obtain ⟨t, rfl⟩ := ry
  obtain ⟨its, r, pl, hz⟩ := I.list hq
  obtain ⟨j, h1, h2, h3, h4, h5⟩ := ziG he
  obtain ⟨w, ew, rw'⟩ := r.get h2
  have hl := r.length
  have hn := zg9
  have fin : EP X pins σ Q w s := ⟨z, H, I, rw', q⟩
  by_cases h0 : 0 ≤ i
  · have hj : i.toNat = j := by
      rw [seqIndex_of h0 h5] at h1
      exact Option.some.inj h1
    exact item_listR pl.isList h0 (by omega) (by rw [hj]; simpa using ew) fin hs
  · have hj : (i + (its.toArray.size : Int)).toNat = j := by
      rw [seqIndex_neg (by omega) h4] at h1
      rw [List.size_toArray, ← hl]
      exact Option.some.inj h1
    exact subscriptTail_builtinR (x := w) pl.isList.typeIs slot_list_getitem.lookup
      (wpAny_getItem_list_neg (Q := fun r s' => r = w ∧ EP X pins σ Q r s') pl.isList (by omega) (by rw [List.size_toArray] <;> omega) (by omega) (by rw [hj]; simpa using ew) ⟨rfl, fin⟩) hs
theorem zao : IxR X (rIxT X.K) := by
  intro value slice pins s σ H x y v u Q I rx ry h hs
  obtain ⟨p, xs, i, z, rfl, rfl, hq, he, q⟩ := h
  cases rx
  obtain ⟨t, rfl⟩ := ry
  obtain ⟨its, r, pl, hz⟩ := I.tuple hq
  obtain ⟨j, h1, h2, h3, h4, h5⟩ := ziG he
  obtain ⟨w, ew, rw'⟩ := r.get h2
  have hl := r.length
  have hn := zg9
  have fin : EP X pins σ Q w s := ⟨z, H, I, rw', q⟩
  exact subscriptTail_builtinR (x := w) pl.typeIs slot_tuple_getitem.lookup
    (getItem_tuple (j := j) (Q := fun r s' => r = w ∧ EP X pins σ Q r s') pl (by omega) (by omega) (by rw [List.size_toArray, ← hl]; exact h1) (by simpa using ew) ⟨rfl, fin⟩) hs
theorem zhS (its : List Value) (n j : Nat) (u : Value) : Obj.mapSeq (·.setIfInBounds j u) { cls := .type "list", data := .seq its.toArray n } = { cls := .type "list", data := .seq (its.set j u).toArray n } := by
  simp [Obj.mapSeq]
theorem Inv.lst {pins : List (Addr × Obj)} {σ : St} {H : Hp} {s : Shared} {p : Addr} {xs : List V} (I : Inv X pins σ H s) (h : H p = some (.lst xs)) :
    ∃ (its : List Value) (n : Nat), Vals xs its ∧ s.heap.get? p = some { cls := .type "list", data := .seq its.toArray n } ∧ xs.length ≤ sizeLine := by
  obtain ⟨z, its, n, r, e⟩ := I.hok p _ h
  exact ⟨its, n, r, e, z⟩
theorem Inv.lstUpd {pins : List (Addr × Obj)} {σ : St} {H : Hp} {s : Shared} {p : Addr} {xs ys : List V} {its its' : List Value} {n n' : Nat} {f : Obj → Obj} (I : Inv X pins σ H s) (h : H p = some (.lst xs))
    (ho : s.heap.get? p = some { cls := .type "list", data := .seq its.toArray n }) (hf : f { cls := .type "list", data := .seq its.toArray n } = { cls := .type "list", data := .seq its'.toArray n' }) (r : Vals ys its') (hz : ys.length ≤ sizeLine) (t : Nat) :
    Inv X pins σ (upd H p (.lst ys)) { s with heap := s.heap.update p f, toks := t } := by
  have e : (s.heap.update p f).get? p = some { cls := .type "list", data := .seq its'.toArray n' } := by
    rw [Heap.get?_update_self f ho (by rw [hf] <;> rfl), hf]
  refine I.write (x := p) (e := p) (by rw [h]; trivial) (.inl rfl) (fun b u hb q => (Heap.get?_update_other _ _ (Ne.symm hb)).trans q) ⟨_, e⟩ ?_
  exact ⟨hz, its', n', r, e⟩
def zmZ : V → V → V → Hp → (Hp → Prop) → Prop := fun o i v H Q => ∃ p xs k j, o = .ref p ∧ i = .int k ∧ H p = some (.lst xs) ∧ ixN xs.length k = some j ∧ Q (upd H p (.lst (xs.set j v)))
theorem zjO : PSet X zmZ := by
  intro pins s σ H o i v ov iv u Q I ro ri rv h
  obtain ⟨p, xs, k, j, rfl, rfl, hp, hj, q⟩ := h
  cases ro
  obtain ⟨t, rfl⟩ := ri
  obtain ⟨its, n, r, ho, hz⟩ := I.lst hp
  obtain ⟨h1, h2, h3, h4⟩ := zgy hj
  have hl := r.length
  have hn := zg9
  have I' : Inv X pins σ (upd H p (.lst (xs.set j v))) { s with heap := s.heap.update p (Obj.mapSeq (·.setIfInBounds j u)) } :=
    I.lstUpd hp ho (zhS its n j u) (r.set rv j) (by rw [List.length_set]; exact hz) s.toks
  by_cases h0 : 0 ≤ k
  · have hk : k.toNat = j := by
      rw [seqIndex_of h0 h4] at h1
      exact Option.some.inj h1
    exact PySem.W.ki_setAt ho h0 (by omega) (by rw [List.size_toArray, ← hl]; exact h4) (by rw [hk]; exact ⟨_, I', q⟩)
  · have hk : (k + (its.toArray.size : Int)).toNat = j := by
      rw [seqIndex_neg (by omega) h3] at h1
      rw [List.size_toArray, ← hl]
      exact Option.some.inj h1
    exact PySem.W.ki_setBack ho (by omega) (by rw [List.size_toArray, ← hl]; exact h3) (by omega) (by rw [hk]; exact ⟨_, I', q⟩)
theorem zfN (lo hi : Option Int) (n : Nat) : (sliceBounds lo hi none n).1 = ((HT.sIx n 0 lo : Nat) : Int) ∧ (sliceBounds lo hi none n).2.1 = ((HT.sIx n n hi : Nat) : Int) ∧ (sliceBounds lo hi none n).2.2 = 1 := by
  refine ⟨?_, ?_, rfl⟩
  · cases lo with
    | none => simp [sliceBounds, HT.sIx]
    | some i =>
      simp only [sliceBounds, HT.sIx, Option.getD_none, show (1 : Int) > 0 by decide, if_true]
      by_cases h : i < 0
      · simp only [h, if_true] <;> omega
      · simp only [h, if_false] <;> omega
  · cases hi with
    | none => simp [sliceBounds, HT.sIx]
    | some i =>
      simp only [sliceBounds, HT.sIx, Option.getD_none, show (1 : Int) > 0 by decide, if_true]
      by_cases h : i < 0
      · simp only [h, if_true] <;> omega
      · simp only [h, if_false] <;> omega
theorem zfj (its : List Value) (lo hi : Option Int) : slicePick its.toArray lo hi none = ((its.drop (HT.sIx its.length 0 lo)).take (HT.sIx its.length its.length hi - HT.sIx its.length 0 lo)).toArray := by
  obtain ⟨h1, h2, h3⟩ := zfN lo hi its.toArray.size
  unfold slicePick
  rw [h1, h2, h3]
  simp only [sliceRange_one, pick_run, List.size_toArray] <;> rfl
def rSlL (K : PySem.W.Frag) : V → Option Int → Option Int → Hp → VK → Prop := fun x lo hi H Q => ∃ a xs, x = .ref a ∧ SqL K H a xs ∧ ∀ p, H p = none → Q (.ref p) (upd H p (.lst (cutV xs lo hi)))
theorem zle : SlR X (rSlL X.K) := by
  intro pins s σ H x v vl vu lo hi sl Q I rx hs pl pu h
  obtain ⟨a, xs, rfl, hx, q⟩ := h
  cases rx
  obtain ⟨its, r, ht, hz⟩ := I.list hx
  have hlen := r.length
  refine ⟨"list", _, slot_list_getitem.lookup, ht.isList.typeIs, ?_⟩
  refine wpAny_getItem_list_slice ht.isList hs pl pu .none (by simp) ?_ (by rw [List.size_toArray] <;> omega)
  rw [zfj, ← hlen]
  refine ⟨.ref s.heap.objs.size, _, I.laid (t' := s.toks) (o := .lst (cutV xs lo hi)) (fun b ob q => Heap.get?_push_of_some _ q) (Nat.le_refl _) ?_, rfl, q _ (I.hok.fresh (Nat.le_refl _))⟩
  exact ⟨Nat.le_trans (zci xs lo hi) hz, _, 0, (r.drop (HT.sIx xs.length 0 lo)).take (HT.sIx xs.length xs.length hi - HT.sIx xs.length 0 lo), Heap.get?_push_size _ rfl⟩
def zaM : V → Bool
  | .non => true
  | .bl _ => true
  | .int _ => true
  | .str _ => true
  | _ => false
def eqV : V → V → Bool
  | .non, .non => true
  | .bl a, .bl b => a == b
  | .bl a, .int b => (if a then 1 else 0) == b
  | .int a, .bl b => a == (if b then 1 else 0)
  | .int a, .int b => a == b
  | .str a, .str b => a == b
  | _, _ => false
theorem ziH {A : Around} {s : Shared} {y x : V} {u v : Value} (ry : RelV y u) (rx : RelV x v) (fy : zaM y = true) (fx : zaM x = true) : SeqAt.EqAt A s u v (eqV y x) := by
  cases y with
  | non =>
    cases ry
    cases x with
    | non => cases rx; exact SeqAt.EqAt.same _
    | bl b => cases rx; exact SeqAt.EqAt.none_bool b
    | int b => obtain ⟨t, rfl⟩ := rx; exact SeqAt.EqAt.none_int b t
    | str b => obtain ⟨t, rfl⟩ := rx; exact SeqAt.EqAt.none_str b t
    | _ => exact absurd (show false = true from fx) Bool.false_ne_true
  | bl a =>
    cases ry
    cases x with
    | non => cases rx; exact SeqAt.EqAt.bool_none a
    | bl b => cases rx; exact SeqAt.EqAt.bool_bool a b
    | int b => obtain ⟨t, rfl⟩ := rx; exact SeqAt.EqAt.bool_int a b t
    | str b => obtain ⟨t, rfl⟩ := rx; exact SeqAt.EqAt.bool_str a b t
    | _ => exact absurd (show false = true from fx) Bool.false_ne_true
  | int a =>
    obtain ⟨t', rfl⟩ := ry
    cases x with
    | non => cases rx; exact SeqAt.EqAt.int_none a t'
    | bl b => cases rx; exact SeqAt.EqAt.int_bool a t' b
    | int b => obtain ⟨t, rfl⟩ := rx; exact SeqAt.EqAt.int_int a t' b t
    | str b => obtain ⟨t, rfl⟩ := rx; exact SeqAt.EqAt.int_str a t' b t
    | _ => exact absurd (show false = true from fx) Bool.false_ne_true
  | str a =>
    obtain ⟨t', rfl⟩ := ry
    cases x with
    | non => cases rx; exact SeqAt.EqAt.str_none a t'
    | bl b => cases rx; exact SeqAt.EqAt.str_bool a t' b
    | int b => obtain ⟨t, rfl⟩ := rx; exact SeqAt.EqAt.str_int a t' b t
    | str b => obtain ⟨t, rfl⟩ := rx; exact SeqAt.EqAt.str_str a t' b t
    | _ => exact absurd (show false = true from fx) Bool.false_ne_true
  | _ => exact absurd (show false = true from fy) Bool.false_ne_true
def eqU (x : V) (u : Value) : Bool := match u with
  | .none => eqV .non x
  | .bool b => eqV (.bl b) x
  | .int i _ => eqV (.int i) x
  | .str z _ => eqV (.str z) x
  | _ => false
theorem zkw {x y : V} {u : Value} (r : RelV y u) (f : zaM y = true) : eqU x u = eqV y x := by
  cases y with
  | non => cases r; rfl
  | bl b => cases r; rfl
  | int i => obtain ⟨t, rfl⟩ := r; rfl
  | str z => obtain ⟨t, rfl⟩ := r; rfl
  | _ => exact absurd (show false = true from f) Bool.false_ne_true
theorem zeq {x : V} : ∀ {xs : List V} {us : List Value}, Vals xs us → xs.all zaM = true → us.any (eqU x) = xs.any fun y => eqV y x
  | _, _, .nil, _ => rfl
  | y :: xs, u :: us, .cons r t, f => by
    rw [List.all_cons, Bool.and_eq_true] at f
    rw [List.any_cons, List.any_cons, zkw r f.1, zeq t f.2]
theorem zdD {A : Around} {s : Shared} {x : V} {v : Value} (rx : RelV x v) (fx : zaM x = true) : ∀ {xs : List V} {us : List Value}, Vals xs us → xs.all zaM = true → ∀ u ∈ us, SeqAt.EqAt A s u v (eqU x u)
  | _, _, .nil, _ => fun u hu => by cases hu
  | y :: xs, u :: us, .cons r t, f => fun u' hu => by
    rw [List.all_cons, Bool.and_eq_true] at f
    rcases List.mem_cons.mp hu with rfl | hu
    · rw [zkw r f.1]; exact ziH r rx f.1 fx
    · exact zdD rx fx t f.2 u' hu
def inV (x : V) (xs : List V) : Bool := xs.any fun y => eqV y x
def rIn (K : PySem.W.Frag) (neg : Bool) : R2 := fun x y H Q => ∃ p xs, y = .ref p ∧ (SqL K H p xs ∨ SqT K H p xs) ∧ zaM x = true ∧ xs.all zaM = true ∧ Q (.bl (if neg then !inV x xs else inV x xs)) H
theorem ziI : OpR X (compareOp .In) (rIn X.K false) := by
  intro pins s σ H x y v u Q I rx ry h
  obtain ⟨p, xs, rfl, hq, fx, fs, q⟩ := h
  cases ry
  rcases hq with hq | hq
  · obtain ⟨its, r, pl, hz⟩ := I.list hq
    refine SeqAt.in_listAt (eqU x) pl.isList (fun w hw => zdD rx fx r fs w (by simpa using hw)) ⟨.bl _, H, I, rfl, ?_⟩
    rw [show its.toArray.any (eqU x) = its.any (eqU x) by simp, zeq r fs]
    exact q
  · obtain ⟨its, r, pl, hz⟩ := I.tuple hq
    refine SeqAt.in_tupleAt (eqU x) pl (fun w hw => zdD rx fx r fs w (by simpa using hw)) ⟨.bl _, H, I, rfl, ?_⟩
    rw [show its.toArray.any (eqU x) = its.any (eqU x) by simp, zeq r fs]
    exact q
theorem zd5 : OpR X (compareOp .NotIn) (rIn X.K true) := by
  intro pins s σ H x y v u Q I rx ry h
  obtain ⟨p, xs, rfl, hq, fx, fs, q⟩ := h
  cases ry
  rcases hq with hq | hq
  · obtain ⟨its, r, pl, hz⟩ := I.list hq
    refine SeqAt.notIn_listAt (eqU x) pl.isList (fun w hw => zdD rx fx r fs w (by simpa using hw)) ⟨.bl _, H, I, rfl, ?_⟩
    rw [show its.toArray.any (eqU x) = its.any (eqU x) by simp, zeq r fs]
    exact q
  · obtain ⟨its, r, pl, hz⟩ := I.tuple hq
    refine SeqAt.notIn_tupleAt (eqU x) pl (fun w hw => zdD rx fx r fs w (by simpa using hw)) ⟨.bl _, H, I, rfl, ?_⟩
    rw [show its.toArray.any (eqU x) = its.any (eqU x) by simp, zeq r fs]
    exact q
theorem zaF : zdp X (.builtin "len") (fun xs H Q => ∃ p ys, xs = [.ref p] ∧ (SqL X.K H p ys ∨ SqT X.K H p ys) ∧ Q (.int ys.length) H) := by
  intro pins s σ H xs us Q I r h
  obtain ⟨p, ys, rfl, hq, q⟩ := h
  obtain ⟨u, rfl, rx⟩ := zfi r
  cases rx
  have hn := zg9
  rcases hq with hq | hq
  · obtain ⟨its, r', pl, hz⟩ := I.list hq
    have hlen := r'.length
    exact Calls.call_len_list pl.isList (by simp only [List.size_toArray] <;> omega) ⟨.int ys.length, H, I.tok _, ⟨s.toks + 1, by rw [List.size_toArray, hlen]⟩, q⟩
  · obtain ⟨its, r', pl, hz⟩ := I.tuple hq
    have hlen := r'.length
    exact len_tuple pl (by simp only [List.size_toArray] <;> omega) ⟨.int ys.length, H, I.tok _, ⟨s.toks + 1, by rw [List.size_toArray, hlen]⟩, q⟩
theorem zfO : zdp X (.type "list") (fun xs H Q => ∃ p ys, xs = [.ref p] ∧ (SqL X.K H p ys ∨ SqT X.K H p ys) ∧ ∀ l, H l = none → Q (.ref l) (upd H l (.lst ys))) := by
  intro pins s σ H xs us Q I r h
  obtain ⟨p, ys, rfl, hq, q⟩ := h
  obtain ⟨u, rfl, rx⟩ := zfi r
  cases rx
  have fin : ∀ (its : List Value), Vals ys its → ys.length ≤ sizeLine → ∀ (h' : Heap) (c' : Nat), (∀ b o', s.heap.get? b = some o' → h'.get? b = some o') →
      h'.get? s.heap.objs.size = some { cls := .type "list", dict := none, data := .seq its.toArray c', slots := #[] } → EP X pins σ Q (.ref s.heap.objs.size) { s with heap := h' } := fun its r' hz h' c' kp e =>
    ⟨.ref s.heap.objs.size, _, I.laid (t' := s.toks) kp (Nat.le_refl _) (show zbr X.prog X.w _ h' _ (.lst ys) from ⟨hz, its, c', r', e⟩), rfl, q _ (I.hok.fresh (Nat.le_refl _))⟩
  rcases hq with hq | hq
  · obtain ⟨its, r', pl, hz⟩ := I.list hq
    have hlen := r'.length
    obtain ⟨o, ho, hc, n, hd⟩ := pl.isList
    exact call_list_seq p (.inl rfl) ho hc hd (fun h' c' kp e => fin its r' hz h' c' kp e) (by simp only [List.size_toArray] <;> omega)
  · obtain ⟨its, r', pl, hz⟩ := I.tuple hq
    have hlen := r'.length
    obtain ⟨o, ho, hc, n, hd⟩ := pl
    exact call_list_seq p (.inr rfl) ho hc hd (fun h' c' kp e => fin its r' hz h' c' kp e) (by simp only [List.size_toArray] <;> omega)
theorem zfk : zdp X (.type "tuple") (fun xs H Q => ∃ p ys, xs = [.ref p] ∧ ((SqL X.K H p ys ∧ ∀ l, H l = none → Q (.ref l) (upd H l (.tup ys))) ∨ (SqT X.K H p ys ∧ Q (.ref p) H))) := by
  intro pins s σ H xs us Q I r h
  obtain ⟨p, ys, rfl, h⟩ := h
  obtain ⟨u, rfl, rx⟩ := zfi r
  cases rx
  rcases h with ⟨hq, q⟩ | ⟨hq, q⟩
  · obtain ⟨its, r', pl, hz⟩ := I.list hq
    have hlen := r'.length
    refine call_tuple_list pl.isList (fun h' kp => ?_) (by simp only [List.size_toArray] <;> omega)
    have I1 : Inv X pins σ H { s with heap := h' } := I.kept (t' := s.toks) kp
    have I2 : Inv X pins σ (upd H h'.objs.size (.tup ys)) { s with heap := h'.push { cls := .type "tuple", data := .seq its.toArray } } :=
      I1.laid (t' := s.toks) (fun b o e => Heap.get?_push_of_some _ e) (Nat.le_refl _) (show zbr X.prog X.w _ _ _ (.tup ys) from ⟨hz, its, r', IsTup.new _ _⟩)
    exact ⟨.ref h'.objs.size, _, I2, rfl, q _ (I1.hok.fresh (Nat.le_refl _))⟩
  · obtain ⟨its, r', pl, hz⟩ := I.tuple hq
    exact call_tuple_same pl ⟨.ref p, H, I, rfl, q⟩
def tyV (K : PySem.W.Frag) (T : String) (x : V) (H : Hp) : Prop := match x with
  | .str _ => T = "str"
  | .int _ => T = "int"
  | .ref p => (T = "list" ∧ ∃ xs, SqL K H p xs) ∨ (T = "tuple" ∧ ∃ o, K.lookup p = some o ∧ o.cls = .type "tuple" ∧ o.dict = none) ∨
      (T = "dict" ∧ ((∃ kvs, H p = some (.dK kvs)) ∨ ∃ kvs, H p = some (.dT kvs))) ∨ (T = "set" ∧ ∃ S n, H p = some (.set S n))
  | _ => False
theorem zlZ {pins : List (Addr × Obj)} {σ : St} {H : Hp} {s : Shared} {T : String} {x : V} {v : Value} (I : Inv X pins σ H s) (r : RelV x v) (ty : tyV X.K T x H) :
    s.TypeIs v T ∧ ∀ a, v = .ref a → ∃ ob, s.heap.get? a = some ob ∧ ob.dict = none := by
  cases x with
  | str z =>
    obtain ⟨t, rfl⟩ := r
    cases (show T = "str" from ty)
    exact ⟨typeIs_str s z t, fun _ e => nomatch e⟩
  | int i =>
    obtain ⟨t, rfl⟩ := r
    cases (show T = "int" from ty)
    exact ⟨typeIs_int s i t, fun _ e => nomatch e⟩
  | ref p =>
    cases r
    rcases ty with ⟨rfl, xs, hq⟩ | ⟨rfl, o, hk, hc, hd⟩ | ⟨rfl, hk⟩ | ⟨rfl, S, n, hk⟩
    · obtain ⟨its, _, pl, _⟩ := I.list hq
      refine ⟨pl.isList.typeIs, fun a e => ?_⟩
      cases e
      obtain ⟨o, n, e, c, hd, _⟩ := pl
      exact ⟨o, e, hd⟩
    · refine ⟨⟨o, I.kIn p o hk, hc⟩, fun a e => ?_⟩
      cases e
      exact ⟨o, I.kIn _ o hk, hd⟩
    · have z : ∃ o, s.heap.get? p = some o ∧ o.ExactDict := by
        rcases hk with ⟨kvs, hk⟩ | ⟨kvs, hk⟩
        · obtain ⟨_, _, _, _, o, _, _, e, ex, _⟩ := I.hok p _ hk
          exact ⟨o, e, ex⟩
        · obtain ⟨_, _, _, _, o, _, _, e, ex, _⟩ := I.hok p _ hk
          exact ⟨o, e, ex⟩
      obtain ⟨o, e, ex⟩ := z
      refine ⟨⟨o, e, ex.1⟩, fun a e2 => ?_⟩
      cases e2
      exact ⟨o, e, ex.2.1⟩
    · obtain ⟨o, _, _, _, e, ex, _⟩ := I.hok p _ hk
      refine ⟨⟨o, e, ex.1⟩, fun a e2 => ?_⟩
      cases e2
      exact ⟨o, e, ex.2.1⟩
  | _ => exact False.elim ty
def tBM (K : PySem.W.Frag) (T : String) (r : V → List V → Hp → VK → Prop) (to : TE) (t : TA) : TE := fun σ H Q => to σ H fun x H1 => tyV K T x H1 ∧ t σ H1 fun xs H2 => r x xs H2 Q
variable {o e : Expr} {es : List Expr} {to : TE} {t : TA} {name : Str} {apos cpos : Pos} {T id : String} {r : V → List V → Hp → VK → Prop}
theorem zgz (pa : PlainAttrs T) (slot : Slot T name id) (hty : typeOf (.builtin id) = pure (.type "method_descriptor")) (hm : MtR X id r) (ho : PE X o to) (ha : PA X (e :: es) t)
    (hbase : attributeBase o name X.env (eval o X.env) = eval o X.env := by rfl)
    (hfew : ((backTo cpos (starEach (e :: es) X.env)).all (fun x => !x.1) && (backToKw cpos (keywordEach [] X.env)).all (fun x => x.1.isSome)
      && decide ((e :: es).length + ([] : List Keyword).length + (if ([] : List Keyword).isEmpty then 0 else 1) < 30)) = true := by rfl)
    (hline : (apos.endLine == cpos.line) = true := by rfl) (hs : starEach (e :: es) X.env = (false, eval e X.env) :: starEach es X.env := by rfl) (hplain : (backTo cpos (starEach es X.env)).any (·.1) = false := by rfl) :
    PE X (.Call (.Attribute o name apos) (e :: es) [] cpos) (tBM X.K T r to t) := by
  with_unfolding_all
    intro pins s σ H Q I h
    refine wpAny_Call_method_late hbase hfew hline rfl (thn (ho pins s σ H _ I h) fun v s1 ⟨x, H1, I1, r1, ty, q1⟩ => ?_)
    obtain ⟨h1, h2⟩ := zlZ I1 r1 ty
    refine ⟨T, id, pa, slot, hty, h1, h2, ?_⟩
    have hA := ha cpos pins s1 σ H1 _ I1 q1
    rw [hs] at hA ⊢
    refine Calls.callWith_builtin (by show (false || (backTo cpos (starEach es X.env)).any (·.1)) = false; rw [hplain] <;> rfl) (Calls.evalArgs_plain ?_)
    exact thn hA fun us s2 ⟨vs, H2, I2, r2, q2⟩ => hm pins s2 σ H2 x vs v us Q I2 r1 r2 q2
/- xs.append(e), list.index on a module's tuple .. are MtR facts of 06m -/
end
end L2
namespace L2
open PySem PySem.Spec PyProof.Rows
def MtM (X : Cx) (id : String) (r : V → List V → Hp → VK → Prop) : Prop :=
  ∀ (pins : List (Addr × Obj)) (s : Shared) (σ : St) (H : Hp) (x : V) (xs : List V) (v : Value) (us : List Value) (Q : VK), Inv X pins σ H s → RelV x v → Vals xs us → r x xs H Q →
    wpAny (model X.prog X.w) X.A (call (.builtin id) (v :: us)) (EP X pins σ Q) X.xe s
theorem Vals.one : ∀ {x : V} {us : List Value}, Vals [x] us → ∃ u, us = [u] ∧ RelV x u
  | _, _, .cons r .nil => ⟨_, rfl, r⟩
theorem Vals.eraseIdx : ∀ {xs : List V} {us : List Value} (i : Nat), Vals xs us → Vals (xs.eraseIdx i) (us.eraseIdx i)
  | _, _, _, .nil => .nil
  | _, _, 0, .cons _ t => t
  | _, _, i + 1, .cons r t => .cons r (Vals.eraseIdx i t)
theorem Vals.reverse {xs : List V} {us : List Value} (h : Vals xs us) : Vals xs.reverse us.reverse := by
  induction h with
  | nil => exact .nil
  | cons r t ih => rw [List.reverse_cons, List.reverse_cons]; exact Vals.append ih (.cons r .nil)
theorem zfP {α : Type} : ∀ (l : List α) (i : Nat), (l.eraseIdx i).length ≤ l.length
  | [], _ => Nat.le_refl _
  | _ :: _, 0 => Nat.le_succ _
  | _ :: r, i + 1 => Nat.succ_le_succ (zfP r i)
section
variable {X : Cx} {pins : List (Addr × Obj)} {σ : St} {H : Hp} {s : Shared} {l b : Addr} {xs ys zs : List V}
theorem Inv.lset {its its' : List Value} {n : Nat} {f : Array Value → Array Value} {t' : Nat} (I : Inv X pins σ H s) (hH : H l = some (.lst xs))
    (e : s.heap.get? l = some { cls := .type "list", data := .seq its.toArray n }) (hf : f its.toArray = its'.toArray) (hv : Vals ys its') (hz : ys.length ≤ sizeLine) :
    Inv X pins σ (upd H l (.lst ys)) { s with heap := s.heap.update l (Obj.mapSeq f), toks := t' } := by
  have q := PySem.IsL.update e f
  rw [hf] at q
  refine I.write (x := l) (e := l) (by rw [hH]; exact trivial) (.inl rfl) (fun b' u hb hu => (Heap.get?_update_other s.heap (Obj.mapSeq f) (Ne.symm hb)).trans hu) ⟨_, q⟩ ?_
  exact ⟨hz, its', _, hv, q⟩
theorem Inv.lnew {its : List Value} {t' : Nat} (I : Inv X pins σ H s) (hv : Vals ys its) (hz : ys.length ≤ sizeLine) :
    Inv X pins σ (upd H s.heap.objs.size (.lst ys)) { s with heap := s.heap.push { cls := .type "list", data := .seq its.toArray }, toks := t' } :=
  I.laid (fun _ _ q => Heap.get?_push_of_some _ q) (Nat.le_refl _) ⟨hz, its, 0, hv, Heap.get?_push_size _ rfl⟩
theorem Inv.fresh (I : Inv X pins σ H s) : H s.heap.objs.size = none := I.hok.fresh (Nat.le_refl _)
theorem Inv.lstM (I : Inv X pins σ H s) (hH : H l = some (.lst xs)) : xs.length ≤ sizeLine ∧ ∃ (its : List Value) (n : Nat), Vals xs its ∧ xs.length = its.length ∧ s.heap.get? l = some { cls := .type "list", data := .seq its.toArray n } := by
  obtain ⟨z, its, n, r, e⟩ := I.hok l _ hH
  exact ⟨z, its, n, r, r.length, e⟩
end
section
variable {X : Cx}
def zlf : V → List V → Hp → VK → Prop := fun x vs H Q => ∃ l xs y, x = .ref l ∧ vs = [y] ∧ H l = some (.lst xs) ∧ xs.length < sizeLine ∧ Q .non (upd H l (.lst (xs ++ [y])))
theorem zc4 : MtM X "list.append" zlf := by
  intro pins s σ H x vs v us Q I rx rv h
  obtain ⟨l, xs, y, rfl, rfl, hH, hz, q⟩ := h
  cases rx
  obtain ⟨u, rfl, ru⟩ := rv.one
  obtain ⟨z, its, n, r, hl, e⟩ := I.lstM hH
  refine call_meets F.slot_list_append ⟨_, e, rfl⟩ F.entry_list_append (F.args_list_append_2 _ _) (PySem.list_append l its.toArray n u (by rw [List.size_toArray]; omega)) ⟨e, ?_⟩
  refine ⟨.non, _, I.lset (its' := its ++ [u]) hH e (by simp) (r.append (.cons ru .nil)) ?_, rfl, q⟩
  rw [List.length_append, List.length_singleton]
  omega
def zl0 : V → List V → Hp → VK → Prop := fun x vs H Q => ∃ l xs i k y, x = .ref l ∧ vs = [.int i] ∧ H l = some (.lst xs) ∧ -(2 ^ 63) ≤ i ∧ i < 2 ^ 63 ∧ seqIndex? i xs.length = some k ∧ xs[k]? = some y ∧ Q y (upd H l (.lst (xs.eraseIdx k)))
theorem zjP : MtM X "list.pop" zl0 := by
  intro pins s σ H x vs v us Q I rx rv h
  obtain ⟨l, xs, i, k, y, rfl, rfl, hH, h1, h2, hk, hy, q⟩ := h
  cases rx
  obtain ⟨u, rfl, ru⟩ := rv.one
  obtain ⟨t, rfl⟩ := ru
  obtain ⟨z, its, n, r, hl, e⟩ := I.lstM hH
  obtain ⟨w, hw, rw'⟩ := r.get hy
  refine call_meets F.slot_list_pop ⟨_, e, rfl⟩ F.entry_list_pop (F.args_list_pop_2 _ _)
    (MeetsSeq.list_pop_at l its.toArray n i t k w (fitsIndex_both h1 h2) (by rw [List.size_toArray, ← hl]; exact hk) (by rw [← Array.getElem?_toList]; exact hw) (by rw [List.size_toArray]; omega)) ⟨e, ?_⟩
  refine ⟨y, _, I.lset (its' := its.eraseIdx k) hH e ?_ (r.eraseIdx k) ?_, rw', q⟩
  · show its.toArray.eraseIdxIfInBounds k = (its.eraseIdx k).toArray
    rw [List.eraseIdxIfInBounds_toArray]
  · have := zfP xs k
    omega
def rCat : R2 := fun x y H Q => ∃ l b xs zs, x = .ref l ∧ y = .ref b ∧ H l = some (.lst xs) ∧ H b = some (.lst zs) ∧ xs.length + zs.length ≤ sizeLine ∧ ∀ p, H p = none → Q (.ref p) (upd H p (.lst (xs ++ zs)))
theorem zl1 : OpR X (binaryOp .Add) rCat := by
  intro pins s σ H x y v u Q I rx ry h
  obtain ⟨l, b, xs, zs, rfl, rfl, hH, hB, hz, q⟩ := h
  cases rx
  cases ry
  obtain ⟨z, its, n, r, hl, e⟩ := I.lstM hH
  obtain ⟨z2, its2, n2, r2, hl2, e2⟩ := I.lstM hB
  refine PySem.P.add_list e e2 ?_ (by rw [List.size_toArray, List.size_toArray]; omega)
  have ea : its.toArray ++ its2.toArray = (its ++ its2).toArray := by simp
  rw [ea]
  exact ⟨.ref _, _, I.lnew (t' := s.toks) (r.append r2) (by rw [List.length_append]; omega), rfl, q _ I.fresh⟩
end
section
variable {prog : Program} {w : World} {A : Around} {E : Value → Shared → Prop} {s : Shared}
set_option maxRecDepth 100000 in
end
section
variable {X : Cx}
end
end L2
namespace Att
open PySem PySem.W PySem.Calls PyProof.Rows
theorem zer {P : Params} {h : Heap} : ∀ (ns : List Int) (vs : List Value), WellAll P h vs (ns.map WData.int) → IntsAre vs ns := by
  intro ns
  induction ns with
  | nil =>
    intro vs w
    rw [List.map_nil] at w
    cases w
    exact .nil
  | cons n ns ih =>
    intro vs w
    rw [List.map_cons] at w
    cases w with
    | cons a b =>
      cases a
      exact .cons _ _ (ih _ b)
theorem ziJ {l : OpenLaw} {n : Nat} (hn : l.most = some n) {P : Params} {h : Heap} {args : List WData} {vals : List Value}
    (hpre : l.row.toRowW.claim.pre args = true) (hwl : WellAll P h vals args) :
    ∃ a vs ns, vals = [Value.ref a] ∧ args = [WData.list (ns.map WData.int)] ∧ h.get? a = some { cls := .type "list", data := .seq vs.toArray } ∧ IntsAre vs ns ∧ ns.length ≤ n := by
  have hsh : WShape.hasAll [] args [.list .int] = true := (pre_splitW hpre).1
  have hc : l.pre.holds [] { args := args } = true := (pre_splitW hpre).2
  obtain ⟨d, r, rfl, h1, h2⟩ := hasAllW_cons hsh
  obtain rfl := hasAllW_nil h2
  obtain ⟨xs, rfl, h3⟩ := hasW_list h1
  obtain ⟨ns, rfl⟩ := items_int h3
  have hlen : ns.length ≤ n := by
    unfold OpenLaw.pre at hc
    have h4 : (WTm.not (.lt (.lit (.int (n : Int))) (.len (.arg 0)))).holds [] { args := [.list (ns.map .int)] } = true := by
      have h4 := (holds_andW hc).1
      rw [hn] at h4
      exact h4
    have h5 := condW_of h4 (w_not (w_lt w_lit (w_len_list (w_arg rfl))))
    rw [List.length_map] at h5
    refine Nat.le_of_not_lt fun q => ?_
    have q' : (n : Int) < ((ns.length : Nat) : Int) := by omega
    first
      | (rw [decide_eq_true q'] at h5; exact absurd h5 (by decide))
      | (simp at h5; omega)
  cases hwl with
  | cons w1 w2 =>
    cases w2
    cases w1 with
    | list ho hall => exact ⟨_, _, ns, rfl, rfl, ho, zer ns _ hall, hlen⟩
theorem ziK (l : OpenLaw) (args : List WData) : l.row.toRowW.claim.post args (.bool true) args = true :=
  postW_of (r := l.row.toRowW) (X := (true == true))
    (show WShape.has [] (.bool true) .bool = true by first | rfl | decide | simp [WShape.has, WShape.arms, WShape.armsAll])
    (show (WTm.eq .res (.lit (.bool true))).value [] { args := args, res := some (.bool true), after := args } = some (.bool (true == true)) from w_eq_bool (w_res rfl) w_lit) rfl
theorem attach_call {l : OpenLaw} {n : Nat} {q : Program} {loose : List Str} {XP : (Str → Option Value) → Heap → Prop} {YP : World → Heap → Prop} {d : DefRec}
    (hn : l.most = some n) (hdf : d.params.defaults = [])
    (call : ∀ (w : World) (s₀ s₁ : Shared) (mg mb : Str → Option Value) (fa : Addr) (o : Obj) (pm cd doc : Value) (a : Addr) (vs : List Value) (ns : List Int),
      Ground q loose [] XP w s₀ mg mb s₁.heap → YP w s₁.heap →
      s₁.heap.get? fa = some o → o.data = .func (docDef d.name d.params d.body d.scope pm cd doc) → s₁.heap.CodeRec cd d.name → mg d.name = some (.ref fa) →
      s₁.heap.get? a = some { cls := .type "list", data := .seq vs.toArray } → IntsAre vs ns → ns.length ≤ n → s₁.gens = #[] →
      codeAny (model l.prog w) callerA (.call (.ref fa) ⟨[.ref a], []⟩) (fun r s' => r = .ok (.ret (.bool true)) ∧ OldK s₁.heap s'.heap ∧ s'.os = s₁.os ∧ AllBare s'.gens) s₁) :
    WalkO q loose XP YP l.row.toRowW d [] (fun f vs => PySem.call f vs) := by
  intro w s₀ s₁ mg mb G Y fa o pm cd doc dV kV ho hd hcd hD hmg hg args vals as hpre hlay hrd hwl hlo
  obtain rfl : dV = .none := Dflts.none hD hdf
  obtain rfl : kV = .none := Dflts.noKw hD
  obtain ⟨a, vs, ns, rfl, rfl, hobj, hints, hlen⟩ := ziJ hn hpre hwl
  refine enter_call (codeAny_mono (call w s₀ s₁ mg mb fa o pm cd doc a vs ns G Y ho (fd_plain hd) hcd hmg hobj hints hlen hg) fun r s' hq => ?_)
  obtain ⟨rfl, h2, h3, h4⟩ := hq
  exact ⟨.inl ⟨.bool true, .bool true, [], rfl, fun _ => rfl, .bool true, ziK l _, fun _ => ⟨List.Pairwise.nil, fun _ hm => (nomatch hm)⟩⟩, h2, h3, h4⟩
section
variable {prog : Program} {w : World} {A : Around} {E : Value → Shared → Prop} {s : Shared} {K : Frag}
def znk (h : Heap) (L d : Addr) : List (Addr × Obj) := (List.range h.objs.size).filterMap fun a => if a = L ∨ a = d then none else (h.get? a).map fun o => (a, o)
end
end Att
namespace L2
open PySem PySem.Spec PyProof.Rows
theorem zfQ : ∀ {vs : List Value} {ns : List Int}, IntsAre vs ns → Vals (ns.map V.int) vs
  | _, _, .nil => .nil
  | _, _, .cons n t h => .cons ⟨t, rfl⟩ (zfQ h)
end L2
namespace L2
open PySem PySem.Spec PyProof.Rows
abbrev KOf {K : PySem.W.Frag} {h : Heap} (_ : K.In h) : PySem.W.Frag := K
end L2
/- THE LAST THEOREM (shape; LID, My.* are yours):
   My.Adr: a structure of the addresses that your layer names (classes, functions); My.Txt K t: a structure (Prop) of the equations over K;
   My.txt_mk : {K} {implicit addresses ..} (e1 : nsIn K mainGlobals "law" = some (some (.ref f))) (e2 : K.lookup f = some ⟨oc, od, .func (fnOf "law" "law" params body scope dV kV doc pm an cdv ct), sl⟩) (e3 : codeIn K cdv "law" = true) .. : ∃ t, My.Txt K t
set_option maxRecDepth 100000 in
set_option maxHeartbeats 0 in
theorem PySem.Challenge.cw_LID_holds : PySem.Challenge.rw_LID.Holds := by
  w_on; o_law; k_head; (case hw => w_witness2)
  k_fill
  refine L2.walk_of (l := PySem.Challenge.rw_LID) (n := 63) (k := 40) (x := "script") (CX := fun w => ..) (sp := fun _ => My.sp_law) rfl (by decide) rfl ⟨rfl, by decide, by decide⟩ (fun w h Y => PySem.W.kIn_of Y) ?F ?S ?C
  case F =>
    intro w mg fa h KX G hmg
    have T : ∃ t, My.Txt (L2.KOf KX) t := by
      dsimp only [L2.KOf]
      refine' My.txt_mk ?e1 ?e2 ?e3 ..
      (case e1 => PySem.W.k_is)
      (case e2 => PySem.W.k_is)
      ..
    obtain ⟨t, T⟩ := T
    have e0 := hmg.symm.trans (PySem.W.mg_of KX G T.law)
    cases e0
    exact ⟨_, fun s u => .of_eq rfl, fun base kb nb => My.law_fn T kb nb⟩
  case S => exact fun w H a ns hl hO hS => ..
  case C => exact ..
(the tactic k_is has no namespace: write k_is) -/
namespace L2
open PySem PySem.Spec PyProof.Rows
def zlg (s : Stmt) (j : Nat) : Stmt := match s with
  | .ClassDef _ _ _ body _ _ _ _ _ _ _ => body.getD j (.Pass ⟨0, 0, 0, 0⟩)
  | _ => .Pass ⟨0, 0, 0, 0⟩
def zan (s : Stmt) : Arguments := match s with
  | .FunctionDef _ a _ _ _ _ _ _ _ _ => a
  | _ => { posonlyargs := [], args := [], vararg := none, kwonlyargs := [], kw_defaults := [], kwarg := none, defaults := [] }
def zaj (s : Stmt) : List Stmt := match s with
  | .FunctionDef _ _ b _ _ _ _ _ _ _ => b
  | _ => []
def zad (s : Stmt) : Scope := match s with
  | .FunctionDef _ _ _ _ _ _ sc _ _ _ => sc
  | _ => { kind := .function, names := [], isGenerator := false, isCoroutine := false }
abbrev CX0 : CXT := fun _ _ _ _ _ _ => False
abbrev E0 : XK := fun _ _ _ => False
theorem zl2 {X : Cx} : ze2 CX0 X E0 := fun _ _ _ _ _ _ _ h => h.elim
structure Fun (K : PySem.W.Frag) (x qual : Str) (st : Stmt) (f : Addr) (fd : FuncData) : Prop where
  ex : ∃ (oc : Value) (od : Option Addr) (kV doc pm : Value) (an : Option Addr) (cdv ct : Value) (osl : Array (Option Value)),
    fd = PySem.W.fnOf x qual (zan st) (zaj st) (zad st) .none kV doc pm an cdv ct ∧ K.lookup f = some ⟨oc, od, .func fd, osl⟩ ∧ PySem.W.codeIn K cdv qual = true
  kp : PySem.W.keepIn K (.ref f) = true
section
variable {P : Program} {w : World} {K : PySem.W.Frag} {mg : Str → Option Value} {base : Heap}
theorem Fun.ok {x qual : Str} {st : Stmt} {f : Addr} {fd : FuncData} {N ps : List Str} {k : Nat} {sp : Sp} (F : Fun K x qual st f fd) (S : FnScope N ps (zad st)) (len : ∀ vs H Q E, sp vs H Q E → vs.length = ps.length)
    (hbody : ∀ (cdv : Value) (A : Around) (outer : List Env) (s : Shared) (H : Hp) (vs : List V) (Q : VK) (E : XK), Room k (A.deeper (envOfC qual (zad st) s.heap.objs.size f cdv)) → sp vs H Q E →
      ∃ t, PSs (cxOf CX0 P w K mg base N qual (zad st) f cdv A outer s H E).nox (zaj st) t ∧ t { nx := fun _ H' => Q .non H', rt := Q } (zeo N vs) H) : FnOk P w K mg base CX0 (k + 1) f fd ps sp := by
  obtain ⟨oc, od, kV, doc, pm, an, cdv, ct, osl, rfl, lk, hcd⟩ := F.ex
  refine zjJ lk hcd S len fun A outer s H vs Q E hr hsp => ?_
  obtain ⟨t, h, q⟩ := hbody cdv A outer s H vs Q E hr hsp
  exact ⟨t, h.nox, q⟩
theorem Fun.binds {x qual : Str} {st : Stmt} {f : Addr} {fd : FuncData} {ps : List Str} (F : Fun K x qual st f fd)
    (h : ∀ (kV doc pm : Value) (an : Option Addr) (cdv ct : Value) (us : List Value), us.length = ps.length → bindArgs (PySem.W.fnOf x qual (zan st) (zaj st) (zad st) .none kV doc pm an cdv ct) ⟨us, []⟩ = pure (ps.zip us)) : zb6 K fd ps [] := by
  obtain ⟨oc, od, kV, doc, pm, an, cdv, ct, osl, rfl, lk, hcd⟩ := F.ex
  exact .all (h kV doc pm an cdv ct)
theorem zaL {x qual : Str} {st : Stmt} {f : Addr} {oc : Value} {od an : Option Addr} {osl : Array (Option Value)} {kV doc pm cdv ct : Value} (l : K.lookup f = some ⟨oc, od, .func (PySem.W.fnOf x qual (zan st) (zaj st) (zad st) .none kV doc pm an cdv ct), osl⟩)
    (c : PySem.W.codeIn K cdv qual = true) (k : PySem.W.keepIn K (.ref f) = true) : Fun K x qual st f (PySem.W.fnOf x qual (zan st) (zaj st) (zad st) .none kV doc pm an cdv ct) := ⟨⟨oc, od, kV, doc, pm, an, cdv, ct, osl, rfl, l, c⟩, k⟩
end
theorem zaA {n : Nat} (h : n ≤ 1000) : n < sizeLine := Nat.lt_of_le_of_lt h (by decide)
section
variable {X : Cx}
theorem pv (i : Nat) {x : Str} {pos : Pos} (hN : X.N[i]? = some x := by rfl) (hv : Vis X.env.scope x := by first | exact Or.inl rfl | exact Or.inr (Or.inl rfl) | exact Or.inr (Or.inr rfl)) (hd : (x == ("__debug__" : Str)) = false := by decide)
    (hcd : (x == ("__classdict__" : Str)) = false := by decide) : PE X (.Name x pos) (tVar i) := zik hN hv hd hcd
end
theorem iteF {A B : Prop} (h : B) : if false = true then A else B := by
  rw [if_neg Bool.false_ne_true]
  exact h
theorem iteT {A B : Prop} (h : A) : if true = true then A else B := by
  rw [if_pos rfl]
  exact h
theorem ite2 {c A B : Prop} [Decidable c] (h1 : c → A) (h2 : ¬ c → B) : if c then A else B := by
  by_cases h : c
  · rw [if_pos h]
    exact h1 h
  · rw [if_neg h]
    exact h2 h
def Same (H H' : Hp) : Prop := ∀ b o, H b = some o → H' b = some o
theorem Same.refl (H : Hp) : Same H H := fun _ _ h => h
theorem Same.trans {H H1 H2 : Hp} (a : Same H H1) (b : Same H1 H2) : Same H H2 := fun c o h => b c o (a c o h)
theorem Same.free {H H' : Hp} (e : Same H H') {l : Addr} (h : H' l = Option.none) : H l = Option.none := by
  cases q : H l with
  | none => rfl
  | some o =>
    rw [e l o q] at h
    cases h
theorem Same.seq {K : PySem.W.Frag} {H H' : Hp} {a : Addr} {xs : List V} (e : Same H H') (h : SqL K H a xs) : SqL K H' a xs := by
  rcases h with (h | ⟨o, h⟩) | h
  · exact .inl (.inl (e _ _ h))
  · exact .inl (.inr ⟨o, e _ _ h⟩)
  · exact .inr h
section
variable {κ : Type} [DecidableEq κ]
end
end L2
set_option Elab.async false
set_option linter.all false
set_option maxRecDepth 100000
namespace L2
open PySem PySem.Spec PyProof.Rows
theorem zcB : bootBuiltins "len" = some (.builtin "len") := by decide +kernel
theorem zkx : bootBuiltins "max" = some (.builtin "max") := by decide +kernel
theorem zl3 : bootBuiltins "min" = some (.builtin "min") := by decide +kernel
theorem zaG : bootBuiltins "isinstance" = some (.builtin "isinstance") := by decide +kernel
theorem ze4 : bootBuiltins "int" = some (.type "int") := by decide +kernel
theorem zgA : bootBuiltins "bool" = some (.type "bool") := by decide +kernel
theorem zfl : bootBuiltins "tuple" = some (.type "tuple") := by decide +kernel
theorem zcJ : bootBuiltins "list" = some (.type "list") := by decide +kernel
theorem zky : bootBuiltins "all" = some (.builtin "all") := by decide +kernel
structure Cal (P : Program) (w : World) (K : PySem.W.Frag) (mg : Str → Option Value) (base : Heap) (x : Str) (k : Nat) (ps : List Str) (sp : Sp) : Prop where
  ex : ∃ f fd, FnOk P w K mg base CX0 k f fd ps sp ∧ zb6 K fd ps [] ∧ mg x = some (.ref f) ∧ PySem.W.keepIn K (.ref f) = true
structure Dfn (K : PySem.W.Frag) (mg : Str → Option Value) (x : Str) (st : Stmt) (ps : List Str) (f : Addr) (fd : FuncData) : Prop where
  F : Fun K x x st f fd
  b : zb6 K fd ps []
  m : mg x = some (.ref f)
theorem Dfn.cal {P : Program} {w : World} {K : PySem.W.Frag} {mg : Str → Option Value} {base : Heap} {x : Str} {st : Stmt} {ps : List Str} {f : Addr} {fd : FuncData} {k : Nat} {sp : Sp}
    (D : Dfn K mg x st ps f fd) (G : FnOk P w K mg base CX0 k f fd ps sp) : Cal P w K mg base x k ps sp := ⟨⟨f, fd, G, D.b, D.m, D.F.kp⟩⟩
section
variable {X : Cx} {k : Nat} {ps : List Str} {sp : Sp} {x : Str} {p pos : Pos} {e : Expr} {es : List Expr} {t : TA}
theorem zal (C : Cal X.prog X.w X.K X.mg X.base x k ps sp) (hr : Room k X.A) (hg : Gl X x) (ha : PA X (e :: es) t) (hdb : (x == ("__debug__" : Str)) = false := by decide)
    (he : starEach (e :: es) X.env = (false, eval e X.env) :: starEach es X.env := by rfl) (hpl : (backTo pos (starEach es X.env)).any (·.1) = false := by rfl) :
    PE X (.Call (.Name x p) (e :: es) [] pos) (zjI sp [] E0 t) := by
  obtain ⟨f, fd, G, b, m, kp⟩ := C.ex
  exact zgw G hr hg m kp b .nil zl2 ha hdb he hpl
end
section
variable {X : Cx}
def zm0 (_ j : Int) : Prop := 0 < j ∧ j < 1000000000000000000000000000000000000000000000000000000000000
theorem zdE : OpR X (binaryOp .FloorDiv) (rI zm0 fun i j => .int (i / j)) := opI fun i j _ _ _ _ _ hc q => by
  have h1 : (0 : Int) < j := hc.1
  have h2 : j < 1000000000000000000000000000000000000000000000000000000000000 := hc.2
  have h3 : j.natAbs < 2 ^ 200 := by
    have z : (1000000000000000000000000000000000000000000000000000000000000 : Nat) ≤ 2 ^ 200 := by decide
    exact Nat.lt_of_lt_of_le (by omega) z
  have h4 : j.natAbs.log2 < 200 := (Nat.log2_lt (by omega)).mpr h3
  exact floordiv_int (by omega) (by rw [Int.fdiv_eq_ediv_of_nonneg i (by omega)]; exact q) (.inl (PyProof.noPylong_of_log2 (by omega)))
theorem zl4 : OpR X (compareOp .Is) (fun x y H Q => ∃ c d, x = .bl c ∧ y = .bl d ∧ Q (.bl (c == d)) H) := by
  intro pins s σ H x y v u Q I rx ry h
  obtain ⟨c, d, rfl, rfl, q⟩ := h
  cases (show v = Value.bool c from rx)
  cases (show u = Value.bool d from ry)
  exact wpAny_is_plain rfl (zaR I q (by cases c <;> cases d <;> rfl))
def eqVs : List V → List V → Bool
  | [], [] => true
  | x :: xs, y :: ys => eqV x y && eqVs xs ys
  | _, _ => false
def eqJ (xs ys : List V) (j : Nat) : Bool := match xs[j]?, ys[j]? with
  | some x, some y => eqV x y
  | _, _ => false
theorem zes : ∀ xs ys : List V, ((List.range (min xs.length ys.length)).all (eqJ xs ys) && (xs.length == ys.length)) = eqVs xs ys
  | [], [] => rfl
  | [], y :: ys => by simp [eqVs]
  | x :: xs, [] => by simp [eqVs]
  | x :: xs, y :: ys => by
    have ih := zes xs ys
    have hm : min (x :: xs).length (y :: ys).length = min xs.length ys.length + 1 := by simp [List.length_cons]
    have h0 : eqJ (x :: xs) (y :: ys) 0 = eqV x y := rfl
    have h1 : (eqJ (x :: xs) (y :: ys)) ∘ Nat.succ = eqJ xs ys := by
      funext j
      simp [eqJ, Function.comp]
    have hl : ((x :: xs).length == (y :: ys).length) = (xs.length == ys.length) := by
      rw [Bool.eq_iff_iff]
      simp
    rw [hm, List.range_succ_eq_map, List.all_cons, List.all_map, h0, h1, hl, Bool.and_assoc, ih]
    rfl
theorem zkz {A : Around} {s : Shared} {xs ys : List V} {us vs : List Value} (r : Vals xs us) (q : Vals ys vs) (fx : xs.all zaM = true) (fy : ys.all zaM = true) (j : Nat) (h1 : j < us.toArray.size) (h2 : j < vs.toArray.size) :
    SeqAt.EqAt A s us.toArray[j] vs.toArray[j] (eqJ xs ys j) := by
  have l1 : j < xs.length := by rw [r.length]; simpa using h1
  have l2 : j < ys.length := by rw [q.length]; simpa using h2
  obtain ⟨u, eu, ru⟩ := r.get (List.getElem?_eq_getElem l1)
  obtain ⟨v, ev, rv⟩ := q.get (List.getElem?_eq_getElem l2)
  have e1 : us.toArray[j] = u := by
    have := (List.getElem?_eq_some_iff.mp eu).2
    simpa using this
  have e2 : vs.toArray[j] = v := by
    have := (List.getElem?_eq_some_iff.mp ev).2
    simpa using this
  have e3 : eqJ xs ys j = eqV xs[j] ys[j] := by
    unfold eqJ
    rw [List.getElem?_eq_getElem l1, List.getElem?_eq_getElem l2]
  rw [e1, e2, e3]
  exact ziH ru rv (List.all_eq_true.mp fx _ (List.getElem_mem l1)) (List.all_eq_true.mp fy _ (List.getElem_mem l2))
theorem zfm : ∀ {xs ys : List V}, xs.length ≠ ys.length → eqVs xs ys = false
  | [], [], h => absurd rfl h
  | [], _ :: _, _ => rfl
  | _ :: _, [], _ => rfl
  | x :: xs, y :: ys, h => by
    show (eqV x y && eqVs xs ys) = false
    rw [zfm (fun e => h (by simp [e])), Bool.and_false]
def rEqL (K : PySem.W.Frag) : R2 := fun x y H Q => ∃ a b xs ys, x = .ref a ∧ y = .ref b ∧ SqL K H a xs ∧ SqL K H b ys ∧ xs.all zaM = true ∧ ys.all zaM = true ∧ Q (.bl (eqVs xs ys)) H
theorem ziL (hu : X.A.units < cLine) : OpR X (compareOp .Eq) (rEqL X.K) := by
  intro pins s σ H x y v u Q I rx ry h
  obtain ⟨a, b, xs, ys, rfl, rfl, hx, hy, fx, fy, q⟩ := h
  cases rx
  cases ry
  obtain ⟨its, r, pl, hz⟩ := I.list hx
  obtain ⟨its2, r2, pl2, hz2⟩ := I.list hy
  have e1 : its.toArray.size = xs.length := by simp [r.length]
  have e2 : its2.toArray.size = ys.length := by simp [r2.length]
  by_cases hl : xs.length = ys.length
  · refine SeqAt.eq_listAt (e := eqJ xs ys) pl.isList pl2.isList (by omega) hu (fun j h1 h2 => zkz r r2 fx fy j h1 h2) ⟨.bl _, H, I, rfl, ?_⟩
    have z := zes xs ys
    rw [← hl, Nat.min_self] at z
    rw [e1]
    have z' : (List.range xs.length).all (eqJ xs ys) = eqVs xs ys := by
      rw [← z]
      simp
    rw [z']
    exact q
  · refine SeqAt.eq_list_lengthsAt pl.isList pl2.isList ?_ hu ⟨.bl _, H, I, rfl, ?_⟩
    · rw [e1, e2]
      simpa using hl
    · rw [zfm hl] at q
      exact q
end
theorem zaU {H : Hp} {p : Addr} (h : H p = none) (o : HO) : Same H (upd H p o) := fun b u q => by rw [zah (zar q h)]; exact q
section
variable {X : Cx} {es : List Expr} {t : TA} {pos : Pos}
def zl5 (t : TA) : TE := fun σ H Q => t σ H fun xs H1 => xs.length ≤ sizeLine ∧ ∀ p H2, Same H1 H2 → H1 p = none → H2 p = some (.tup xs) → Q (.ref p) H2
def zm1 (t : TA) : TE := fun σ H Q => t σ H fun xs H1 => xs.length ≤ sizeLine ∧ ∀ p H2, Same H1 H2 → H1 p = none → H2 p = some (.lst xs) → Q (.ref p) H2
theorem zaB {x1} (h : PA X es t) : PE X (.Tuple es x1 pos) (zl5 t) := by
  with_unfolding_all
    intro pins s σ H Q I hq
    refine wpAny_Tuple_spliced (thn (h pos pins s σ H _ I hq) fun us s1 ⟨xs, H1, I1, r, z, q⟩ => ⟨by rw [← r.length]; exact z, ?_⟩)
    have hf : H1 s1.heap.objs.size = none := I1.hok.fresh (Nat.le_refl _)
    refine ⟨.ref s1.heap.objs.size, upd H1 s1.heap.objs.size (.tup xs), I1.laid (t' := s1.toks) (fun b u e => Heap.get?_push_of_some _ e) (Nat.le_refl _) ?_, rfl, q _ _ (zaU hf _) hf zai⟩
    exact ⟨z, us, r, ⟨_, Heap.get?_push_size _ rfl, rfl, _, rfl⟩⟩
theorem zaz (h : PA X es t) : PE X (.List es pos) (zm1 t) := by
  with_unfolding_all
    intro pins s σ H Q I hq
    refine wpAny_List_spliced (thn (h pos pins s σ H _ I hq) fun us s1 ⟨xs, H1, I1, r, z, q⟩ => ⟨by rw [← r.length]; exact z, ?_⟩)
    have hf : H1 s1.heap.objs.size = none := I1.hok.fresh (Nat.le_refl _)
    refine ⟨.ref s1.heap.objs.size, upd H1 s1.heap.objs.size (.lst xs), I1.laid (t' := s1.toks) (fun b u e => Heap.get?_push_of_some _ e) (Nat.le_refl _) ?_, rfl, q _ _ (zaU hf _) hf zai⟩
    exact ⟨z, us, 0, r, Heap.get?_push_size _ rfl⟩
end
section
variable {X : Cx} {st : Stmt} {rest : List Stmt} {t u : TS}
def tMid (t u : TS) : TS := fun D σ H => ∃ M : St → Hp → Prop, t { D with nx := M } σ H ∧ ∀ σ' H', M σ' H' → u D σ' H'
theorem zfn (h1 : PS X st t) (h2 : PSs X rest u) : PSs X (st :: rest) (tMid t u) := by
  with_unfolding_all
    intro pins s σ H D I h
    obtain ⟨M, h, hm⟩ := h
    refine wpAny_execs_cons (thn (h1 pins s σ H { D with nx := M } I h) fun f s1 q => ?_)
    cases f with
    | next =>
      obtain ⟨σ', H', I', q⟩ := q
      exact h2 pins s1 σ' H' D I' (hm σ' H' q)
    | ret v => exact q
    | brk => exact q
    | cont => exact q
end
theorem sz (n : Nat) (h : n ≤ 1000) : n ≤ sizeLine := Nat.le_of_lt (zaA h)
def ziM (K : PySem.W.Frag) : Sp := fun vs H Q _ => ∃ (a : Addr) (ns : List Int), vs = [.ref a] ∧ SqL K H a (ns.map V.int) ∧ ns.length ≤ 63 ∧ ∀ H', Q (.bl true) H'
section
variable {X : Cx}
def zm2 : R2 := fun x y H Q => ∃ l b xs zs, x = .ref l ∧ y = .ref b ∧ H l = some (.lst xs) ∧ H b = some (.lst zs) ∧ xs.length + zs.length ≤ sizeLine ∧ ∀ p H2, Same H H2 → H p = none → H2 p = some (.lst (xs ++ zs)) → Q (.ref p) H2
theorem zc5 : OpR X (binaryOp .Add) zm2 := by
  intro pins s σ H x y v u Q I rx ry h
  obtain ⟨l, b, xs, zs, e1, e2, h1, h2, hz, q⟩ := h
  exact zl1 pins s σ H x y v u Q I rx ry ⟨l, b, xs, zs, e1, e2, h1, h2, hz, fun p hp => q p _ (zaU hp _) hp zai⟩
end
theorem TyOf.same {K : PySem.W.Frag} {H H' : Hp} {x : V} {t : Value} (s : Same H H') (h : TyOf K H x t) : TyOf K H' x t := by
  cases h with
  | non => exact .non
  | bl b => exact .bl b
  | int i => exact .int i
  | str z => exact .str z
  | flt z => exact .flt z
  | lst e => exact .lst (s _ _ e)
  | frz e => exact .frz (s _ _ e)
  | tup e => exact .tup (s _ _ e)
  | dK e => exact .dK (s _ _ e)
  | dT e => exact .dT (s _ _ e)
  | ins e cl ha hn htk hm => exact .ins (s _ _ e) cl ha hn htk hm
theorem iteD {c A B : Prop} [Decidable c] (hc : c) (h : A) : if decide c = true then A else B := by
  rw [decide_eq_true hc]
  exact iteT h
theorem ziN {c A B : Prop} [Decidable c] (hc : ¬ c) (h : B) : if decide c = true then A else B := by
  rw [decide_eq_false hc]
  exact iteF h
end L2
set_option Elab.async false
set_option linter.all false
set_option maxRecDepth 100000
set_option maxHeartbeats 4000000
namespace PySem
def zdO (env : Env) (x : Str × NameKind) (cs : List (Str × Addr)) : Sem (ForInStep (List (Str × Addr))) :=
  if (x.2 == NameKind.free) = true then do let c ← cellOf env x.1; pure (ForInStep.yield ((x.1, c) :: cs)) else pure (ForInStep.yield cs)
theorem zkA (scope : Scope) (env : Env) : closureFor scope env = (forIn scope.names ([] : List (Str × Addr)) (zdO env) >>= fun cs => pure cs) := by
  unfold closureFor
  rfl
theorem zhc {env : Env} : ∀ (l : List (Str × NameKind)) (acc : List (Str × Addr)), (∀ y ∈ l, y.2 = .free → ∃ c, env.cells.lookup y.1 = some c) → (∀ x c, acc.lookup x = some c → env.cells.lookup x = some c) →
    ∃ cl, (forIn l acc (zdO env) : Sem _) = pure cl ∧ (∀ x c, cl.lookup x = some c → env.cells.lookup x = some c) ∧ (∀ x, (x, NameKind.free) ∈ l → ∃ c, cl.lookup x = some c) ∧ (∀ x c, acc.lookup x = some c → ∃ c, cl.lookup x = some c) ∧ (∀ x c, cl.lookup x = some c → (x, NameKind.free) ∈ l ∨ ∃ c', acc.lookup x = some c')
  | [], acc, _, ha => ⟨acc, rfl, ha, fun x h => (by cases h), fun x c h => ⟨c, h⟩, fun x c h => .inr ⟨c, h⟩⟩
  | (n, k) :: l, acc, h, ha => by
    by_cases hk : k = .free
    · subst hk
      obtain ⟨c, hc⟩ := h (n, .free) List.mem_cons_self rfl
      have ha' : ∀ x c', ((n, c) :: acc).lookup x = some c' → env.cells.lookup x = some c' := fun x c' e => by
        rw [List.lookup_cons] at e
        by_cases q : x = n
        · subst q
          simp at e
          rw [hc, e]
        · have : (x == n) = false := by simpa using q
          rw [this] at e
          exact ha x c' e
      obtain ⟨cl, e1, e2, e3, e4, e5⟩ := zhc l ((n, c) :: acc) (fun y hy => h y (List.mem_cons_of_mem _ hy)) ha'
      refine ⟨cl, ?_, e2, fun x hx => ?_, fun x c' hx => ?_, fun x c' hx => ?_⟩
      · rw [List.forIn_cons]
        have : zdO env (n, .free) acc = pure (ForInStep.yield ((n, c) :: acc)) := by
          simp only [zdO, cellOf, hc]
          rfl
        rw [this, pure_bind]
        exact e1
      · rcases List.mem_cons.mp hx with q | q
        · cases q
          exact e4 n c (by simp)
        · exact e3 x q
      · by_cases q : x = n
        · subst q
          exact e4 x c (by simp)
        · have : (x == n) = false := by simpa using q
          exact e4 x c' (by rw [List.lookup_cons, this]; exact hx)
      · rcases e5 x c' hx with z | ⟨d, z⟩
        · exact .inl (List.mem_cons_of_mem _ z)
        · by_cases q : x = n
          · subst q
            exact .inl List.mem_cons_self
          · have : (x == n) = false := by simpa using q
            rw [List.lookup_cons, this] at z
            exact .inr ⟨d, z⟩
    · obtain ⟨cl, e1, e2, e3, e4, e5⟩ := zhc l acc (fun y hy => h y (List.mem_cons_of_mem _ hy)) ha
      refine ⟨cl, ?_, e2, fun x hx => ?_, e4, fun x c' hx => (e5 x c' hx).imp (List.mem_cons_of_mem _) id⟩
      · rw [List.forIn_cons]
        have : zdO env (n, k) acc = pure (ForInStep.yield acc) := by
          have z : (k == NameKind.free) = false := by simpa using hk
          simp only [zdO, z]
          rfl
        rw [this, pure_bind]
        exact e1
      · rcases List.mem_cons.mp hx with q | q
        · cases q
          exact absurd rfl hk
        · exact e3 x q
theorem zdg {scope : Scope} {env : Env} (h : ∀ y ∈ scope.names, y.2 = .free → ∃ c, env.cells.lookup y.1 = some c) :
    ∃ cl, closureFor scope env = pure cl ∧ (∀ x c, cl.lookup x = some c → env.cells.lookup x = some c) ∧ (∀ x, (x, NameKind.free) ∈ scope.names → ∃ c, cl.lookup x = some c) := by
  obtain ⟨cl, e1, e2, e3, _⟩ := zhc scope.names [] h (fun x c e => by simp at e)
  exact ⟨cl, by rw [zkA, e1]; rfl, e2, e3⟩
theorem zgB {scope : Scope} {env : Env} (h : ∀ y ∈ scope.names, y.2 = .free → ∃ c, env.cells.lookup y.1 = some c) :
    ∃ cl, closureFor scope env = pure cl ∧ (∀ x c, cl.lookup x = some c → env.cells.lookup x = some c) ∧ (∀ x, (x, NameKind.free) ∈ scope.names → ∃ c, cl.lookup x = some c) ∧ (∀ x c, cl.lookup x = some c → (x, NameKind.free) ∈ scope.names) := by
  obtain ⟨cl, e1, e2, e3, _, e5⟩ := zhc scope.names [] h (fun x c e => by simp at e)
  exact ⟨cl, by rw [zkA, e1]; rfl, e2, e3, fun x c e => (e5 x c e).elim id fun ⟨_, z⟩ => by simp at z⟩
end PySem
namespace L2
open PySem PySem.Spec PyProof.Rows
abbrev zay (X : Cx) (N : List Str) (scope : Scope) (cl : List (Str × Addr)) (C : Addr) (s₀ : Shared) (H₀ : Hp) (ex : List Addr) : Cx where
  prog := X.prog
  w := X.w
  K := X.K
  mg := X.mg
  base := X.base
  A := X.A
  N := N
  s₀ := s₀
  H₀ := H₀
  env := compEnvC scope cl C X.env
  outer := X.stack
  stack := X.stack
  ex := ex
  fn := fun _ => false
  calm := X.calm
  pn := []
  xe := fun _ _ => False
def ze5 (Y : Cx) (ifs : List Expr) (t : TT) : Prop :=
  ∀ (pins : List (Addr × Obj)) (s : Shared) (σ : St) (H : Hp) (Q : Bool → Hp → Prop), Inv Y pins σ H s → t σ H Q →
    wpAny (model Y.prog Y.w) Y.A (forIn ifs true fun c r => if r = true then do let ok ← isTrue c Y.env (eval c Y.env); pure (ForInStep.yield ok) else pure (ForInStep.yield r)) (TP Y pins σ Q) Y.xe s
def tYes : TT := fun _ H Q => Q true H
theorem zb4 {Y : Cx} : ze5 Y [] tYes := fun _ _ _ H _ I h => wpAny_tests_nil ⟨H, I, h⟩
theorem zdF {Y : Cx} {c : Expr} {t : TT} (h : PT Y c t) : ze5 Y [c] t := by
  with_unfolding_all
    exact fun pins s σ H Q I q => wpAny_tests_one (h pins s σ H Q I q)
def caps (σ : St) (js : List Nat) : St := js.map fun j => (σ[j]?).join
def ze6 (J : It) (js : List Nat) (tc : TT) (te : TE) (σ : St) (H1 : Hp) (Q : VK) : Prop :=
  ∀ D H2, Same H1 H2 → H1 D = none → H2 D = some (.lst []) → ∃ W : Nat → Nat → List V → Hp → Prop, (∃ m, W 0 m [] H2) ∧ ∀ i m acc H3, W i m acc H3 →
    H3 D = some (.lst acc) ∧ acc.length < sizeLine ∧ ((J.stop i H3 ∧ Q (.ref D) H3) ∨ (J.go i H3 ∧ ∀ x H4, J.yld i H3 x H4 →
      tc (some x :: caps σ js) H4 fun b H5 => if b = true then te (some x :: caps σ js) H5 fun v H6 => H6 D = some (.lst acc) ∧
          ∀ H7, (∀ b o, b ≠ D → H6 b = some o → H7 b = some o) → H7 D = some (.lst (acc ++ [v])) → ∃ m', m' < m ∧ W (i + 1) m' (acc ++ [v]) H7
        else ∃ m', m' < m ∧ W (i + 1) m' acc H5))
def zl6 (wi : TI) (js : List Nat) (tc : TT) (te : TE) : TE := fun σ H Q => wi σ H fun J H1 => ze6 J js tc te σ H1 Q
structure CompScope (X : Cx) (scope : Scope) (x : Str) (N : List Str) (js : List Nat) : Prop where
  kind : scope.kind = .function
  nocell : ∀ y ∈ scope.names, y.2 ≠ .cell
  loc : ∀ y ∈ scope.names, y.2 = .local → scope.names.lookup y.1 = some .local
  own : scope.names.lookup x = some .local
  free : ∀ y ∈ scope.names, y.2 = .free → X.env.kindOf y.1 = some .cell
  nd : N.Nodup
  head : N[0]? = some x
  len : N.length = js.length + 1
  apart : ∀ y, scope.names.lookup y = some .local → (y, NameKind.free) ∉ scope.names
  cap : ∀ (k j : Nat) (y : Str), N[k + 1]? = some y → js[k]? = some j → X.N[j]? = some y ∧ Vis X.env.scope y ∧ X.env.kindOf y = some .cell ∧ (y, NameKind.free) ∈ scope.names
theorem CompScope.of {X : Cx} {scope : Scope} {x : Str} {N : List Str} {js : List Nat} (c1 : scope.kind = .function) (c2 : (scope.names.all fun y => y.2 != .cell) = true)
    (c3 : (scope.names.all fun y => y.2 != .local || scope.names.lookup y.1 == some .local) = true) (c4 : scope.names.lookup x = some .local) (c5 : (scope.names.all fun y => y.2 != .free || X.env.kindOf y.1 == some .cell) = true)
    (nd : N.Nodup) (hd : N[0]? = some x) (len : N.length = js.length + 1) (c6 : (scope.names.all fun y => y.2 != .free || scope.names.lookup y.1 != some .local) = true)
    (c7 : (((N.drop 1).zip js).all fun p => X.N[p.2]? == some p.1 && X.env.scope.names.lookup p.1 == some .cell && scope.names.contains (p.1, NameKind.free)) = true) : CompScope X scope x N js where
  kind := c1
  nocell := fun y hy e => by
    have := List.all_eq_true.mp c2 y hy
    rw [e] at this
    exact absurd this (by decide)
  loc := fun y hy e => by
    have := List.all_eq_true.mp c3 y hy
    rw [e] at this
    simpa using this
  own := c4
  free := fun y hy e => by
    have := List.all_eq_true.mp c5 y hy
    rw [e] at this
    simpa using this
  nd := nd
  head := hd
  len := len
  apart := fun y hl hm => by
    have := List.all_eq_true.mp c6 _ hm
    rw [hl] at this
    simp at this
  cap := fun k j y h1 h2 => by
    have hz : ((N.drop 1).zip js)[k]? = some (y, j) := by
      rw [List.getElem?_zip_eq_some]
      exact ⟨by rw [List.getElem?_drop, Nat.add_comm]; exact h1, h2⟩
    have := List.all_eq_true.mp c7 _ (List.mem_of_getElem? hz)
    simp only [Bool.and_eq_true, beq_iff_eq] at this
    obtain ⟨⟨a, b⟩, c⟩ := this
    exact ⟨a, .inr (.inl b), b, by simpa using c⟩
theorem za3 {scope : Scope} {env : Env} {y : Str} {k : NameKind} (h : (relabel scope env).names.lookup y = some k) (hk : k = .cell ∨ k = .free) (nocell : ∀ z ∈ scope.names, z.2 ≠ .cell) : (y, NameKind.free) ∈ scope.names := by
  have hm := PySem.mem_of_lookup h
  obtain ⟨⟨n, k'⟩, hn, e⟩ := List.mem_map.mp hm
  dsimp only at e
  by_cases c : (k' == NameKind.free && env.scope.kind == .function && env.kindOf n == some .cell) = true
  · rw [if_pos c] at e
    have ek : k' = .free := by
      simp only [Bool.and_eq_true, beq_iff_eq] at c
      exact c.1.1
    cases e
    rw [← ek]
    exact hn
  · rw [if_neg c] at e
    cases e
    rcases hk with rfl | rfl
    · exact absurd rfl (nocell _ hn)
    · exact hn
theorem zcv {X : Cx} {iter elt : Expr} {x : Str} {px : Pos} {ifs : List Expr} {scope : Scope} {pos : Pos} {wi : TI} {N : List Str} {js : List Nat} {tc : TT} {te : TE}
    (hc : X.calm = true) (S : CompScope X scope x N js) (hi : PI X (.Name x px) iter wi)
    (ht : ∀ cl C s₀ H₀ ex, ze5 (zay X N scope cl C s₀ H₀ ex) ifs tc) (he : ∀ cl C s₀ H₀ ex, PE (zay X N scope cl C s₀ H₀ ex) elt te)
    (hs : ∀ x, foldedSetIterable iter X.env x = pure x := by intro _; rfl) :
    PE X (.ListComp elt [⟨.Name x px, iter, ifs, 0⟩] scope pos) (zl6 wi js tc te) := by
  with_unfolding_all
    intro pins s σ H Q I h
    have hcells : ∀ y ∈ scope.names, y.2 = .free → ∃ c, X.env.cells.lookup y.1 = some c := fun y hy hf => I.ok.has y.1 (.inl (S.free y hy hf))
    obtain ⟨cl, ecl, cl1, cl2⟩ := zdg hcells
    rw [eval_ListComp]
    refine wpAny_comprehension_free (use := none) rfl hs ecl S.kind S.loc (thn (hi pins s σ H _ I h) fun v s1 h1 => thn h1 fun itv s2 h2 => ?_)
    obtain ⟨it, fp, tn, J, H2, e, I2, T, st2, f2, q2⟩ := h2
    subst e
    refine wpAny_newObj_type (wpAny_newFunctionEnv S.nocell (by intro y hy; simp at hy) (fun h₁ hns₁ hsb₁ => ?_) S.kind)
    dsimp only at hns₁ hsb₁ ⊢
    generalize hP2 : s2.heap.push { cls := .type "list", dict := none, data := .seq ([] : List Value).toArray } = P2 at hns₁ hsb₁ ⊢
    have hC : P2.objs.size = s2.heap.objs.size + 1 := by rw [← hP2, Heap.size_push]
    have below : ∀ b, b < s2.heap.objs.size → b ≠ P2.objs.size ∧ b ≠ s2.heap.objs.size := fun b hb => ⟨by rw [hC]; exact Nat.ne_of_lt (Nat.lt_succ_of_lt hb), Nat.ne_of_lt hb⟩
    have hDC : s2.heap.objs.size ≠ P2.objs.size := by rw [hC]; exact Nat.ne_of_lt (Nat.lt_succ_self _)
    have old : ∀ b o, s2.heap.get? b = some o → h₁.get? b = some o := fun b o e => hsb₁.extBut b o (below b (Heap.lt_size e)).1 (Heap.get?_push_of_some _ (hP2 ▸ Heap.get?_push_of_some _ e))
    have hD : h₁.get? s2.heap.objs.size = some { cls := .type "list", dict := none, data := .seq ([] : List Value).toArray } := hsb₁.extBut _ _ hDC (Heap.get?_push_of_some _ (hP2 ▸ Heap.get?_push_size _ rfl))
    have hDn : H2 s2.heap.objs.size = none := I2.hok.fresh (Nat.le_refl _)
    have hCn : H2 P2.objs.size = none := I2.hok.fresh (by rw [hC]; exact Nat.le_succ _)
    obtain ⟨W, ⟨m0, w0⟩, turn⟩ := q2 s2.heap.objs.size _ (zaU hDn (.lst [])) hDn zai
    have fpl : ∀ b ∈ fp, b < s2.heap.objs.size := fun b hb => by
      obtain ⟨o, e, _⟩ := T.obj 0 _ st2 b hb
      exact Heap.lt_size e
    have yok : (zay X N scope cl P2.objs.size s2 H2 fp).Ok :=
      { mod := I2.ok.mod
        kind := S.kind
        glob := I2.ok.glob
        blt := I2.ok.blt
        above := by show s2.heap.objs.size ≤ P2.objs.size; rw [hC]; exact Nat.le_succ _
        inj := fun y z c h1 h2 => I2.ok.inj y z c (cl1 y c h1) (cl1 z c h2)
        has := fun y hy => by
          have hy' : (y, NameKind.free) ∈ scope.names := by
            rcases hy with hy | hy
            · exact za3 (env := X.env) hy (.inl rfl) S.nocell
            · exact za3 (env := X.env) hy (.inr rfl) S.nocell
          exact cl2 y hy'
        cab := fun y c hf _ => by cases hf
        hd := fun hc' => I2.ok.hd hc'
        frames := I2.ok.frames
        stk := .inl rfl
        exf := fun b hb => ⟨(below b (fpl b hb)).1, fun y c e => (f2 b hb).2.2.2.2.1 y c (cl1 y c e)⟩
        bs := I2.bs
        bsz := Nat.le_trans I2.ok.bsz I2.sz
        noex := fun b o e hb => by
          rcases (f2 b hb).2.2.2.1 with z | z
          · exact I2.ok.noex b o e z
          · exact absurd (Nat.lt_of_lt_of_le (Nat.lt_of_lt_of_le (Heap.lt_size e) I2.ok.bsz) z) (Nat.lt_irrefl _)
        exfs := fun b hb hf => by
          rcases List.mem_cons.mp (I2.stkSub b hf) with z | z
          · exact (f2 b hb).2.1 z
          · exact (f2 b hb).2.2.1 z
        funs := I2.stack
        frf := I2.stkFree }
    have hokD : HOk X.prog X.w (upd H2 s2.heap.objs.size (.lst [])) h₁ := I2.hok.laid old (Nat.le_refl _) ⟨Nat.zero_le _, [], 0, .nil, hD⟩
    have I3 : Inv (zay X N scope cl P2.objs.size s2 H2 fp) [] (none :: caps σ js) (upd H2 s2.heap.objs.size (.lst [])) { s2 with heap := h₁, toks := s2.toks + ([] : List (Str × Value)).length } :=
      { ok := yok
        os := rfl
        bare := I2.bare
        base := Un.laid old (Nat.le_refl _) hDn
        loc := by
          refine ⟨_, hns₁, fun i y v e1 e2 e3 => ?_⟩
          cases i with
          | zero => simp at e2
          | succ k =>
            have e2' : (caps σ js)[k]? = some (some v) := by simpa using e2
            unfold caps at e2'
            rw [List.getElem?_map] at e2'
            cases ej : js[k]? with
            | none => rw [ej] at e2'; cases e2'
            | some j =>
              rw [ej] at e2'
              have e4 : (σ[j]?).join = some v := Option.some.inj e2'
              have e5 : σ[j]? = some (some v) := by
                cases eσ : σ[j]? with
                | none => rw [eσ] at e4; cases e4
                | some o => rw [eσ] at e4; exact congrArg some e4
              obtain ⟨n1, n2, n3, n4⟩ := S.cap k j y e1 ej
              obtain ⟨mX, _, lX⟩ := I2.loc
              obtain ⟨u, ru, lk⟩ := lX j y v n1 e5 n2
              refine ⟨u, ru, ?_⟩
              rcases lk with ⟨lk, _⟩ | ⟨_, c, ec, cell⟩
              · rw [n3] at lk; cases lk
              · obtain ⟨c', ec'⟩ := cl2 y n4
                have : c' = c := Option.some.inj ((cl1 y c' ec').symm.trans ec)
                subst this
                obtain ⟨o, ho, hd⟩ := cell
                refine .inr ⟨?_, c', ec', ⟨o, old _ _ ho, hd⟩⟩
                have e3' : (relabel scope X.env).names.lookup y = some .local ∨ (relabel scope X.env).names.lookup y = some .cell ∨ (relabel scope X.env).names.lookup y = some .free := e3
                rcases e3' with z | z | z
                · exfalso
                  have hm := PySem.mem_of_lookup z
                  obtain ⟨⟨n, k'⟩, hn, e⟩ := List.mem_map.mp hm
                  dsimp only at e
                  by_cases cc : (k' == NameKind.free && X.env.scope.kind == .function && X.env.kindOf n == some .cell) = true
                  · rw [if_pos cc] at e
                    cases e
                  · rw [if_neg cc] at e
                    cases e
                    have l1 := S.loc _ hn rfl
                    have l2 := lookup_relabel_local (env := X.env) l1
                    have f1 := S.free _ n4 rfl
                    exact S.apart y l1 n4
                · exact .inl z
                · exact .inr z
        cell := fun y c e => by
          obtain ⟨v, o, ho, hd⟩ := I2.cell y c (cl1 y c e)
          exact ⟨v, o, old _ _ ho, hd⟩
        free := by show upd H2 s2.heap.objs.size (.lst []) P2.objs.size = none; rw [zah (Ne.symm hDC)]; exact hCn
        freeC := fun y c e => by
          obtain ⟨v, o, ho, hd⟩ := I2.cell y c (cl1 y c e)
          rw [zah (below c (Heap.lt_size ho)).2]
          exact I2.freeC y c (cl1 y c e)
        pin := fun p hp => by simp at hp
        hok := hokD
        len := by show (none :: caps σ js).length = N.length; rw [S.len]; simp [caps] }
    have st3 : tn 0 h₁ := T.keep 0 _ _ st2 fun b _ o e => old b o e
    have fr3 : ∀ b ∈ fp, (upd H2 s2.heap.objs.size (.lst [])) b = none := fun b hb => by
      rw [zah (below b (fpl b hb)).2]
      exact (f2 b hb).1
    have stat : ∀ {H' : Hp}, (∀ b ∈ fp, H' b = none) → ∀ b ∈ fp, FpOk (zay X N scope cl P2.objs.size s2 H2 fp) [] H' b := fun hn b hb =>
      ⟨hn b hb, (below b (fpl b hb)).1, yok.exfs b hb, .inl hb, fun y c e => (f2 b hb).2.2.2.2.1 y c (cl1 y c e), fun p hp => by simp at hp⟩
    have pgn : PG (zay X N scope cl P2.objs.size s2 H2 fp) (.Name x px) (zcb 0) := zaD S.nd S.head (.inl (lookup_relabel_local S.own)) (.inr (lookup_relabel_local S.own))
    have loop : ∀ s₃ : Shared, s₃ = { s2 with heap := h₁, toks := s2.toks + ([] : List (Str × Value)).length } →
        codeAny (model X.prog X.w) X.A (.compLoop (.ListComp elt [⟨.Name x px, iter, ifs, 0⟩] scope pos) 0 (.ref it) (.ref s2.heap.objs.size) (compEnvC scope cl P2.objs.size X.env))
          (compPost (model X.prog X.w) X.A X.xe none (EP X pins σ Q) (.ref s2.heap.objs.size) P2.objs.size) s₃ := by
      rintro s₃ rfl
      refine codeAny_loop rfl (fun n s' => ∃ i o acc H', Inv (zay X N scope cl P2.objs.size s2 H2 fp) [] (o :: caps σ js) H' s' ∧ tn i s'.heap ∧ (∀ b ∈ fp, H' b = none) ∧ W i n acc H') ?_ m0 ⟨0, none, [], _, I3, st3, fr3, w0⟩
      rintro n s4 ⟨i, o, acc, H4, I4, st4, fr4, w4⟩
      show wpAny _ X.A ((compTurn (.ListComp elt [⟨.Name x px, iter, ifs, 0⟩] scope pos) 0 (.ref it) (.ref s2.heap.objs.size) (compEnvC scope cl P2.objs.size X.env)).onRaise (fun x => do noteFrame x (compEnvC scope cl P2.objs.size X.env); theTreesLotGoes x)) _ _ s4
      refine wpAny_noted ?_
      rw [compTurn_list]
      refine wpAny_bind (wpAny_standAt (wpAny_bind ?_))
      obtain ⟨hD4, hz4, alt⟩ := turn i n acc H4 w4
      rcases alt with ⟨stop, qn⟩ | ⟨go, step⟩
      · refine thn (T.done (zay X N scope cl P2.objs.size s2 H2 fp) rfl rfl rfl hc i [] s4 _ H4 _ I4 (stat fr4) st4 stop) fun r s5 ⟨hr, I5⟩ => ?_
        subst hr
        refine wpAny_pure ?_
        obtain ⟨m5, n5, _⟩ := I5.loc
        refine ⟨m5, n5, fun h' sb => ⟨.ref s2.heap.objs.size, H4, ?_, rfl, qn⟩⟩
        have k5 : ∀ b o, b ≠ P2.objs.size → s5.heap.get? b = some o → h'.get? b = some o := fun b o hb e => sb.extBut b o hb e
        have u5 := I5.base
        have nC : ∀ b o, s2.heap.get? b = some o → b ≠ P2.objs.size := fun b o e => (below b (Heap.lt_size e)).1
        refine I2.call' (s' := { s5 with heap := h' }) (ch := fp) I5.os ?_ ?_ I5.bare fun b hb => ⟨(f2 b hb).2.2.2.1, (f2 b hb).2.1, (f2 b hb).2.2.2.2.1, (f2 b hb).2.2.2.2.2⟩
        · refine ⟨fun b o e n1 n2 n3 => k5 b o (nC b o e) (u5.keep b o e n1 n2 n3), fun b o e n1 n2 n3 => ?_, u5.free, fun b o e n3 => ?_, u5.tups, u5.frzs, u5.tbls⟩
          · obtain ⟨sl, z⟩ := u5.slot b o e n1 n2 n3
            exact ⟨sl, k5 b _ (nC b o e) z⟩
          · obtain ⟨o', z⟩ := u5.there b o e n3
            exact ⟨o', k5 b o' (nC b o e) z⟩
        · intro b u e
          refine (I5.hok b u e).stay (fun c v hc q => k5 c v ?_ q) (fun _ q => q) (fun _ _ q => q) fun _ _ _ q => q
          rintro rfl
          rcases hc with z | z
          · rw [← z, show H4 P2.objs.size = none from I5.free] at e; cases e
          · have := I5.free
            rw [show H4 P2.objs.size = none from I5.free] at z
            cases z
      · refine thn (T.item (zay X N scope cl P2.objs.size s2 H2 fp) rfl rfl rfl hc i [] s4 _ H4 _ I4 (stat fr4) st4 go) fun r s5 ⟨u, hr, h5⟩ => ?_
        subst hr
        refine wpAny_bind (thn h5 fun _ s6 ⟨y, H6, I6, r6, y6, st6, fr6⟩ => ?_)
        have I6' := I6.pinned (stat fr6) (T.obj _ _ st6)
        refine wpAny_bind (wpAny_mono (pgn _ s6 (o :: caps σ js) H6 y u (fun σ' H' => σ' = some y :: caps σ js ∧ H' = H6) I6' r6 ⟨rfl, rfl⟩) (fun _ s7 ⟨σ7, H7, I7, e7, e8⟩ => ?_) fun _ _ z => z.elim)
        subst e7 e8
        have back : ∀ {s9 : Shared} {H9 : Hp} {acc9 : List V} {m9 : Nat}, Inv (zay X N scope cl P2.objs.size s2 H2 fp) ([] ++ zd3 fp s6.heap) (some y :: caps σ js) H9 s9 → m9 < n → W (i + 1) m9 acc9 H9 →
            ∃ m, m < n ∧ ∃ i o acc H', Inv (zay X N scope cl P2.objs.size s2 H2 fp) [] (o :: caps σ js) H' s9 ∧ tn i s9.heap ∧ (∀ b ∈ fp, H' b = none) ∧ W i m acc H' := fun {s9 H9 acc9 m9} I9 hm w9 => by
          refine ⟨m9, hm, i + 1, some y, acc9, H9, I9.unpinned, T.keep _ _ _ st6 fun b hb o e => (I9.pin (b, o) (List.mem_append_right _ (List.mem_append_right _ (zbd hb e)))).1, fun b hb => ?_, w9⟩
          obtain ⟨o, e, d⟩ := T.obj _ _ st6 b hb
          exact (I9.pin (b, o) (List.mem_append_right _ (List.mem_append_right _ (zbd hb e)))).2.1
        refine wpAny_bind (wpAny_mono (ht cl _ s2 H2 fp _ s7 _ _ _ I7 (step y _ y6)) (fun ok s8 ⟨H8, I8, q8⟩ => ?_) fun _ _ z => z.elim)
        cases ok with
        | false =>
          obtain ⟨m9, hm, w9⟩ := q8
          exact wpAny_pure ⟨rfl, back I8 hm w9⟩
        | true =>
          refine wpAny_bind (wpAny_bind (wpAny_mono (he cl _ s2 H2 fp _ s8 _ _ _ I8 q8) (fun xv s9 ⟨v9, H9, I9, r9, hD9, q9⟩ => ?_) fun _ _ z => z.elim))
          refine wpAny_bind (wpAny_mono (zc4 (X := zay X N scope cl P2.objs.size s2 H2 fp) _ s9 _ H9 (.ref s2.heap.objs.size) [v9] (.ref s2.heap.objs.size) [xv] (fun _ H' => H' = upd H9 s2.heap.objs.size (.lst (acc ++ [v9]))) I9 rfl (.cons r9 .nil) ⟨_, acc, v9, rfl, rfl, hD9, hz4, rfl⟩) (fun _ s10 ⟨v10, H10, I10, _, e10⟩ => ?_) fun _ _ z => z.elim)
          subst e10
          obtain ⟨m9, hm, w9⟩ := q9 _ (fun b o hb e => by rw [zah hb]; exact e) zai
          exact wpAny_pure (wpAny_pure ⟨rfl, back I10 hm w9⟩)
    exact codeAny_compStart_list (loop _ rfl) (T.self _ 0 _ _ _ st3 (loop _ rfl))
end L2
namespace M1
def gd (x y : Int) : Int := ((Int.gcd x y : Nat) : Int)
theorem gd_zero {x : Int} (h : 0 ≤ x) : gd x 0 = x := by
  unfold gd
  rw [Int.gcd_zero_right]
  omega
theorem gd_step {x y : Int} : gd y (x % y) = gd x y := by
  unfold gd
  have e : x % y = x + y * (-(x / y)) := by
    rw [Int.mul_neg, Int.emod_def]
    omega
  rw [Int.gcd_comm y, e, Int.gcd_add_mul_left_left]
theorem gd_pos {x y : Int} (h : 0 < y) : 0 < gd x y := by
  have : 0 < Int.gcd x y := Int.gcd_pos_of_ne_zero_right x (by omega)
  unfold gd
  omega
theorem zfR (x y : Int) : gd x y ∣ y := Int.gcd_dvd_right x y
theorem gd_le {x y : Int} (h : 0 < y) : gd x y ≤ y := Int.le_of_dvd h (zfR x y)
end M1
set_option Elab.async false
set_option linter.all false
namespace M2
open PySem PySem.NumText
end M2
set_option Elab.async false
set_option linter.all false
set_option maxRecDepth 100000
set_option maxHeartbeats 4000000
namespace L2
open PySem PySem.Spec PyProof.Rows
section
variable {X : Cx} {tg : Expr}
theorem ziO (bs : List Bool) : (List.range bs.length).all (fun i => (bs[i]?).getD true) = bs.all id := by
  induction bs with
  | nil => rfl
  | cons b r ih =>
    rw [List.length_cons, List.range_succ_eq_map, List.all_cons, List.all_map, List.all_cons, ← ih]
    rfl
theorem zfS (hc : X.calm = true) : zdp X (.builtin "all") (fun xs H Q => ∃ (p : Addr) (bs : List Bool), xs = [.ref p] ∧ SqL X.K H p (bs.map V.bl) ∧ Q (.bl (bs.all id)) H) := by
  intro pins s σ H xs us Q I r h
  obtain ⟨p, bs, rfl, hq, q⟩ := h
  obtain ⟨u, rfl, ru⟩ := zfi r
  cases ru
  obtain ⟨its, rv, pl, hz⟩ := I.list hq
  have lt : p < s.heap.objs.size := by
    obtain ⟨o, ho, _⟩ := pl.isList
    exact Heap.lt_size ho
  have hl : its.toArray.size = bs.length := by
    have := rv.length
    simp at this ⊢
    omega
  refine call_all_walk (wpAny_pyIter_list pl.isList ?_)
  refine ⟨s.heap.objs.size, _, _, _, _, _, fun i => (bs[i]?).getD true, rfl, Walks.list (prog := X.prog) (w := X.w) (A := X.A.in1) (show X.A.in1.handled = none from I.ok.hd hc) _ p (Nat.ne_of_lt lt) its.toArray, ⟨⟨_, Heap.get?_push_size _ rfl, rfl, rfl⟩, pl.isList.at fun o e => Heap.get?_push_of_some _ e⟩, fun i v s' Q' E' hP hQ' => ?_, fun h' tk kk => ?_⟩
  · have hP' : its[i]? = some v := by simpa using hP
    cases e : bs[i]? with
    | none =>
      have h1 : its.length ≤ i := by
        have h2 := List.getElem?_eq_none_iff.mp e
        simp at hl
        omega
      rw [List.getElem?_eq_none h1] at hP'
      cases hP'
    | some b =>
      dsimp only at hQ'
      rw [e] at hQ'
      obtain ⟨u, hu, ru⟩ := rv.get (i := i) (x := .bl b) (by rw [List.getElem?_map, e]; rfl)
      rw [hP'] at hu
      cases hu
      cases (show v = Value.bool b from ru)
      exact wpAny_truthy_bool hQ'
  · rw [hl, ziO]
    refine ⟨.bl _, H, I.kept (t' := tk) (h' := h') fun b o e => kk b o ?_ (Heap.get?_push_of_some _ e), rfl, q⟩
    intro z
    have z : b = s.heap.objs.size := by simpa using z
    exact Nat.ne_of_lt (Heap.lt_size e) z
theorem zfT (hu : X.A.units < cLine) : OpR X (compareOp .NotEq) (fun x y H Q => ∃ a b xs ys, x = .ref a ∧ y = .ref b ∧ SqL X.K H a xs ∧ SqL X.K H b ys ∧ xs.all zaM = true ∧ ys.all zaM = true ∧ Q (.bl (!eqVs xs ys)) H) := by
  intro pins s σ H x y v u Q I rx ry h
  obtain ⟨a, b, xs, ys, rfl, rfl, hx, hy, fx, fy, q⟩ := h
  cases rx
  cases ry
  obtain ⟨its, r, pl, hz⟩ := I.list hx
  obtain ⟨its2, r2, pl2, hz2⟩ := I.list hy
  have e1 : its.toArray.size = xs.length := by simp [r.length]
  have e2 : its2.toArray.size = ys.length := by simp [r2.length]
  by_cases hl : xs.length = ys.length
  · refine SeqAt.RcNeAt.lists (e := eqJ xs ys) pl.isList pl2.isList (by omega) hu (fun j h1 h2 => zkz r r2 fx fy j h1 h2) X.prog X.w X.xe _ ⟨.bl _, H, I, rfl, ?_⟩
    have z := zes xs ys
    rw [← hl, Nat.min_self] at z
    rw [e1]
    have z' : (List.range xs.length).all (eqJ xs ys) = eqVs xs ys := by
      rw [← z]
      simp
    rw [z']
    exact q
  · refine SeqAt.RcNeAt.lists_lengths pl.isList pl2.isList ?_ hu X.prog X.w X.xe _ ⟨.bl _, H, I, rfl, ?_⟩
    · rw [e1, e2]
      simpa using hl
    · rw [zfm hl] at q
      exact q
end
end L2
set_option Elab.async false
set_option linter.all false
set_option maxRecDepth 100000
set_option maxHeartbeats 4000000
namespace L2
open PySem PySem.Spec PyProof.Rows
abbrev TJ := Str → St → Hp → VK → Prop
section
variable {X : Cx} {e : Expr} {es : List Expr} {te : TE} {t : TJ} {pos : Pos}
structure Box (P : Prop) : Prop where
  un : P
end
end L2
set_option Elab.async false
set_option linter.all false
set_option maxRecDepth 100000
set_option maxHeartbeats 4000000
namespace PySem
open Sem (wp)
section
variable {prog : Program} {w : World} {A : Around} {E : Value → Shared → Prop} {h : Heap} {g : Array GenState} {d : Drawn} {t : Nat} {os : OsState}
variable {nm q : Str} {C N : Addr} {bs bm bmB : List Value} {hdct : Bool} {sn : List Str} {sub : List Value} {ab : Bool} {col : Option Bool} {dd : Option Addr} {k0 k1 k2 k3 k5 : Option Value} {B newId initId : String}
theorem zfU (F : ExcBaseFacts B newId initId bmB) (T : OwnTail h bmB bm) {mN : Str → Option Value} {rest : List Value} {fI : Addr} {oI : Obj} {Q : Fin → Shared → Prop}
    (hC : h.get? C = some (excClassObj nm q C N bs bm hdct sn sub ab col dd k0 k1 k2 k3 k5 newId)) (hn : h.Ns N mN) (hi : mN "__init__" = some (.ref fI))
    (hfI : h.get? fI = some oI) (hfc : oI.cls = .type "function")
    (hq : ∀ h' e, Heap.MadeExcOf h h' e (.ref C) rest →
      wpAny (model prog w) A (call (.ref fI) (.ref e :: rest)) (fun r s' => r = .none ∧ Q (.done (.ret (.ref e))) s') E ⟨h', g, d, t, os⟩) (hrest : rest.length ≤ sizeLine := by size_fits) :
    wpAny (model prog w) A (Builtin.«type.__call__» ⟨.ref C :: rest, []⟩) Q E ⟨h, g, d, t, os⟩ := by
  repeat (first | with_reducible refine wpAny_loadPart_at hC ?_ | with_reducible refine wpAny_madeBy_exc hC ?_ | wp_step)
  refine codeAny_call_builtin_code (Code.quiet_builtin _ F.quiet) (wpAny_check_new_subT F T hC ?_)
  refine codeAny_exc_new_subT F T hC ?_ hrest
  show wpAny _ _ _ _ _ _
  have hC₁ := Heap.get?_push_of_some { cls := .ref C, data := .fields #[.ref h.objs.size, .none, .none, .none, .bool false, .none] }
    (Heap.get?_push_of_some { cls := .type "tuple", data := .seq rest.toArray } hC)
  have hfI₁ := Heap.get?_push_of_some { cls := .ref C, data := .fields #[.ref h.objs.size, .none, .none, .none, .bool false, .none] }
    (Heap.get?_push_of_some { cls := .type "tuple", data := .seq rest.toArray } hfI)
  have hn₁ : ((h.push { cls := .type "tuple", data := .seq rest.toArray }).push { cls := .ref C, data := .fields #[.ref h.objs.size, .none, .none, .none, .bool false, .none] }).Ns N mN :=
    let ⟨o, es, ep, e, r⟩ := hn; ⟨o, es, ep, Heap.get?_push_of_some _ (Heap.get?_push_of_some _ e), r⟩
  have hget : ((h.push { cls := .type "tuple", data := .seq rest.toArray }).push
      { cls := .ref C, data := .fields #[.ref h.objs.size, .none, .none, .none, .bool false, .none] }).get? (h.objs.size + 1) = some
      { cls := .ref C, data := .fields #[.ref h.objs.size, .none, .none, .none, .bool false, .none] } := by heap_get
  have hcC : (Value.ref C :: bm).contains (.ref C) = true := by simp
  have T₁ := T.keeps (h' := (h.push { cls := .type "tuple", data := .seq rest.toArray }).push { cls := .ref C, data := .fields #[.ref h.objs.size, .none, .none, .none, .bool false, .none] })
    fun b o e => Heap.get?_push_of_some _ (Heap.get?_push_of_some _ e)
  unfold isInstance
  repeat (first | with_reducible refine wpAny_loadPart_at hget ?_ | (with_reducible refine wpAny_isSubtype_exc hC₁ ?_; rw [hcC]) | wp_step)
  show wpAny _ _ (typeLookup (.ref C) _) _ _ _
  refine wpAny_typeLookup_tail hC₁ hn₁ T₁ F.mroIs F.init.lookup ?_
  rw [hi]
  refine wpAny_holding (wpAny_bind ?_)
  unfold bindSpecial
  refine wpAny_bind (wpAny_typeOf (T := "function") ⟨_, hfI₁, hfc⟩ ?_)
  rw [if_pos (by decide)]
  refine wpAny_pure (wpAny_bind (wpAny_mono (hq _ (h.objs.size + 1) ⟨fun b o hb => Heap.get?_push_of_some _ (Heap.get?_push_of_some _ hb), Heap.get?_none_of_le (Nat.le_succ _), h.objs.size, hget, Heap.get?_none_of_le (Nat.le_refl _), ?_⟩) (fun r s' hr => ?_) fun _ _ x => x))
  · exact Heap.get?_push_of_some _ (Heap.get?_push_at rfl rfl)
  · obtain ⟨rfl, hQ⟩ := hr
    wp_walk
    exact hQ
theorem zlh (F : ExcBaseFacts B newId initId bmB) (T : OwnTail h bmB bm) {mN : Str → Option Value} {rest : List Value} {fI : Addr} {oI : Obj} {Q : Value → Shared → Prop}
    (hC : h.get? C = some (excClassObj nm q C N bs bm hdct sn sub ab col dd k0 k1 k2 k3 k5 newId)) (hn : h.Ns N mN) (hi : mN "__init__" = some (.ref fI))
    (hfI : h.get? fI = some oI) (hfc : oI.cls = .type "function")
    (hq : ∀ h' e, Heap.MadeExcOf h h' e (.ref C) rest →
      wpAny (model prog w) (A.under (.builtin "type.__call__" ⟨.ref C :: rest, []⟩)) (call (.ref fI) (.ref e :: rest)) (fun r s' => r = .none ∧ Q (.ref e) s') E ⟨h', g, d, t, os⟩) (hrest : rest.length ≤ sizeLine := by size_fits) :
    wpAny (model prog w) A (call (.ref C) rest) Q E ⟨h, g, d, t, os⟩ := by
  have f1 := tc_lookup
  have f2 := tc_bind (.ref C)
  have hT : (⟨h, g, d, t, os⟩ : Shared).TypeIs (.ref C) "type" := ⟨_, hC, rfl⟩
  refine wpAny_call (codeAny_of_tree ?_)
  show wpAny _ _ (callAny (.ref C) _) _ _ _
  repeat (any_goals (first | assumption | with_reducible refine wpAny_loadPart_at hC ?_ | wp_step))
  refine ⟨rfl, ?_⟩
  refine codeAny_call_builtin_at (Code.quiet_builtin _ (by decide +kernel)) entry_typeCall (wpAny_check_type_call_sub hC (zfU (hrest := hrest) F T hC hn hi hfI hfc fun h' e hm => ?_))
  exact hq h' e hm
end
end PySem
namespace PySem.W
open PySem PySem.Spec PySem.Calls PyProof.Rows Builtin Builtin.ObjectAttr
def bmVE : List Value := [.type "ValueError", .type "Exception", .type "BaseException", .type "object"]
def zhd : List Value → Bool
  | .ref _ :: r => zhd r
  | l => l == bmVE
def xcIn (K : Frag) (C : Addr) (ini : Option Addr) : Bool := match K.lookup C with
  | some ⟨.type "type", _, .cls cd, sl⟩ => (match cd.mro, sl.toList with
    | .ref C' :: bm, [_, _, _, _, some (.builtin n), _] => C' == C && n == "ValueError.__new__" && !cd.hasDel && cd.hasDict && tailIn K bmVE bm && zhd bm && nsOkIn K cd.ns && nsIn K cd.ns "__init__" == some (ini.map .ref)
    | _, _ => false)
  | _ => false
structure XcAt (h : Heap) (C : Addr) (ini : Option Addr) : Prop where
  ex : ∃ nm q N bs bm sn sub ab col dd k0 k1 k2 k3 k5 mN, h.get? C = some (excClassObj nm q C N bs bm true sn sub ab col dd k0 k1 k2 k3 k5 "ValueError.__new__") ∧ h.Ns N mN ∧ mN "__init__" = ini.map .ref ∧ OwnTail h bmVE bm ∧ zhd bm = true
theorem zeb {K : Frag} {h : Heap} {N : Addr} {x : Str} {v : Value} (X : K.In h) (e : nsOkIn K N = true) (q : nsIn K N x = some (some v)) : h.nsMap N x = some v := by
  have G : h.Ns N (h.nsMap N) := .of_isNs (isNs_of_in X e)
  obtain ⟨o, es, ep, ho, hd, _, hf⟩ := G
  unfold nsIn at q
  split at q
  · rename_i c d es' n' sl q'
    have := X _ _ q'
    rw [ho] at this
    cases this
    cases hd
    split at q
    · rename_i en he
      cases q
      rw [← hf]
      unfold nsFind findBy
      rw [← Array.find?_toList, he]
      rfl
    · split at q <;> cases q
  · cases q
theorem xc_of {K : Frag} {h : Heap} {C : Addr} {ini : Option Addr} (X : K.In h) (q : xcIn K C ini = true) : XcAt h C ini := by
  unfold xcIn at q
  split at q
  · rename_i dd cd sl ho
    split at q
    · rename_i C' bm k0 k1 k2 k3 n k5 hm hs
      simp only [Bool.and_eq_true, beq_iff_eq, Bool.not_eq_true'] at q
      obtain ⟨⟨⟨⟨⟨⟨⟨rfl, rfl⟩, hdel⟩, hdc⟩, ht⟩, hr⟩, hok⟩, hni⟩ := q
      obtain ⟨nm, bs, mro, ns, qn, hd, sn, sub, ab, col, del⟩ := cd
      dsimp only at hm hdel hok hni hdc
      subst hm hdel hdc
      have hsl : sl = #[k0, k1, k2, k3, some (.builtin "ValueError.__new__"), k5] := by
        obtain ⟨l⟩ := sl
        simp only at hs
        rw [hs]
      subst hsl
      refine ⟨nm, qn, ns, bs, bm, sn, sub, ab, col, dd, k0, k1, k2, k3, k5, _, X _ _ ho, .of_isNs (isNs_of_in X hok), ?_, tail_of_in X ht, hr⟩
      cases ini with
      | none => exact nsMap_none_of_in X hok hni
      | some f => exact zeb X hok hni
    · cases q
  · cases q
theorem fn_obj {K : Frag} {h : Heap} {f : Addr} (X : K.In h) (e : isFn K (.ref f) = true) : ∃ o, h.get? f = some o ∧ o.cls = .type "function" := by
  have e' : typeIn K (.ref f) = some (.type "function") := beq_iff_eq.mp e
  obtain ⟨o, ho, z⟩ := Option.map_eq_some_iff.mp e'
  exact ⟨o, X _ _ ho, z⟩
theorem zet (self : Value) : ∀ {l : List Value}, zhd l = true → refuseLoop self "__setattr__" l = pure ()
  | [], e => by cases e
  | .ref c :: r, e => by rw [refuseLoop_ref]; exact zet self (l := r) e
  | .type n :: r, e => by rw [show (Value.type n :: r) = bmVE from beq_iff_eq.mp e]; exact PySem.F.store_ValueError.passes self
  | .none :: r, e => by cases (beq_iff_eq.mp e)
  | .bool _ :: r, e => by cases (beq_iff_eq.mp e)
  | .int _ _ :: r, e => by cases (beq_iff_eq.mp e)
  | .float _ _ :: r, e => by cases (beq_iff_eq.mp e)
  | .str _ _ :: r, e => by cases (beq_iff_eq.mp e)
  | .bytes _ _ :: r, e => by cases (beq_iff_eq.mp e)
  | .builtin _ :: r, e => by cases (beq_iff_eq.mp e)
end PySem.W
namespace PySem.W
open PySem PySem.Spec PySem.Calls PyProof.Rows Builtin Builtin.ObjectAttr
section
variable {prog : Program} {w : World} {A : Around} {K : Frag} {C x : Addr} {s : Shared} {R : Result → Shared → Prop}
theorem zjQ {ox : Obj} {od : Option Obj} {name : Str} {tk : Tok} {v : Value} {ini : Option Addr} (X : K.In s.heap) (I : InstAt s.heap x ox C od) (hx : xcIn K C ini = true) (ht : findIn K (.ref C) name = some none)
    (h : ∀ b, wpAny (model prog w) A.in1 (storeInOwnDict (.ref x) (.ref C) (.str name tk) name v b)
      (fun fin s' => match fin with | .done f => R (.ok f) s' | .again c' => c'.quiet = true ∧ codeAny (model prog w) A c' R s') (fun e s' => R (.error e) s') s) :
    codeAny (model prog w) A (.call (.builtin "object.__setattr__") ⟨[.ref x, .str name tk, v], []⟩) R s := by
  have SF := PySem.F.store_object
  obtain ⟨nm, q, N, bs, bm, sn, sub, ab, col, dd, k0, k1, k2, k3, k5, mN, hC, _, _, T, hr⟩ := (xc_of X hx).ex
  have hm : Looks (model prog w) s.heap (mroOf (.ref C)) (.ref C :: bm) := fun A' Q' E' s' k z => by
    obtain ⟨h0, g, d, t, os⟩ := s'
    exact wpAny_mroOf_exc (k _ _ hC) z
  have hob : (Value.ref C :: bm).contains (.type "object") = true := by rw [List.contains_cons, T.hasType (X := "object") (b := true) (by decide +kernel), Bool.or_true]
  have sub : Looks (model prog w) s.heap (isInstance (.ref x) (.type "object")) true := I.type.andThen (fun A' Q' E' s' k z => by
    obtain ⟨h0, g, d, t, os⟩ := s'
    exact wpAny_isSubtype_exc (k _ _ hC) (by rw [hob]; exact z))
  refine codeAny_call_builtin SF.slot.plain SF.entry (@check_slot (model prog w) _ _ s "object.__setattr__" "object" "__setattr__" (.ref x) [.str name tk, v] [] _ SF.kind SF.split sub (SF.args (.ref x) (.str name tk) v) ?_)
  rw [osa_eq, refuse_eq]
  refine wpAny_bind (wpAny_bind (I.type.here (wpAny_bind (hm.here ?_))))
  rw [refuseLoop_ref, zet _ hr]
  refine wpAny_pure (wpAny_bind (I.type.here (wpAny_bind ((looks_findIn X ht).here (wpAny_bind (wpAny_pure ?_))))))
  exact h _
theorem xset {E : Value → Shared → Prop} {vs : Array Value} {name : Str} {v : Value} {ini : Option Addr} {Q : Unit → Shared → Prop} (X : K.In s.heap) (hx : s.heap.get? x = some { cls := .ref C, data := .fields vs }) (hi : xcIn K C ini = true)
    (hs : findIn K (.ref C) "__setattr__" = some (some (.builtin "object.__setattr__"))) (ht : findIn K (.ref C) name = some none)
    (h : ∀ h', h'.get? x = some { cls := .ref C, dict := some s.heap.objs.size, data := .fields vs } → h'.Ns1 s.heap.objs.size (fun y => if y = name then some v else none) → s.heap.objs.size ≤ h'.objs.size →
      (∀ b o, b ≠ x → s.heap.get? b = some o → h'.get? b = some o) → Q () { s with heap := h', toks := s.toks + 2 }) :
    wpAny (model prog w) A (setAttr (.ref x) name v) Q E s := by
  have I : InstAt s.heap x { cls := .ref C, data := .fields vs } C none := ⟨hx, rfl, rfl, True.intro⟩
  obtain ⟨nm, q, N, bs, bm, sn, sub, ab, col, dd, k0, k1, k2, k3, k5, mN, hC, _, _, T, hr⟩ := (xc_of X hi).ex
  refine set_plain X I hs (zjQ (s := { s with toks := s.toks + 1 }) X I hi ht fun b => ?_)
  have hcd : Looks (model prog w) s.heap (classData C) { name := nm, bases := bs, mro := .ref C :: bm, ns := N, qualname := q, hasDict := true, slotNames := sn, subclasses := sub, abstract := ab, collection := col, hasDel := false } := (Looks.ld (part := none) hC).andThen .now
  refine wpAny_bind (wpAny_pure (wpAny_bind (wpAny_bind (wpAny_loadPart hx (wpAny_bind (Looks.here (s := { s with toks := s.toks + 1 }) hcd ?_))))))
  have hxs : x ≠ s.heap.objs.size := Nat.ne_of_lt (Heap.lt_size hx)
  have hx₁ : (s.heap.push { cls := .type "dict", data := .dict #[] }).get? x = some { cls := .ref C, data := .fields vs } := Heap.get?_push_of_some _ hx
  refine wpAny_bind (wpAny_alloc' ?_)
  refine wpAny_bind (wpAny_update' hx₁ ?_)
  refine wpAny_pure ?_
  have hgd : ((s.heap.push { cls := .type "dict", data := .dict #[] }).update x fun o => { cls := o.cls, dict := some s.heap.objs.size, data := o.data, slots := o.slots }).get? s.heap.objs.size
      = some { cls := .type "dict", data := .dict #[] } :=
    (Heap.get?_update_ne _ _ _ _ hxs.symm).trans (Heap.get?_push_at rfl rfl)
  have hnd : ((s.heap.push { cls := .type "dict", data := .dict #[] }).update x fun o => { cls := o.cls, dict := some s.heap.objs.size, data := o.data, slots := o.slots }).Ns s.heap.objs.size (fun _ => none) :=
    ⟨_, #[], _, hgd, rfl, fun e he => absurd he (by simp), fun _ => rfl⟩
  show wpAny _ _ (storeInDict s.heap.objs.size (.str name _) name v) _ _ _
  unfold storeInDict newKeyGuard
  refine wpAny_bind (wpAny_pure (wpAny_bind (wpAny_nsSet1 (Heap.Ns1.of_empty hnd) fun h' hn' hs' => ?_)))
  obtain ⟨oD, esD, epD, hoD, hdD, hcD⟩ := hn'.count (Within.cons name v Within.nil)
  refine wpAny_bind (wpAny_lookBehind hoD (by rw [hdD]; exact pastItsLine_dict (Nat.le_trans hcD (by rw [List.length_cons, List.length_nil, sizeLine_eq]; omega))) ?_)
  refine wpAny_pure (h h' ?_ hn' ?_ fun b o hb e => ?_)
  · exact (hs'.2 x hxs).trans (Heap.get?_update_self _ hx₁ rfl)
  · have := Heap.lt_size hoD
    exact Nat.le_of_lt this
  · exact (hs'.2 b (Nat.ne_of_lt (Heap.lt_size e))).trans ((Heap.get?_update_ne _ _ _ _ hb).trans (Heap.get?_push_of_some _ e))
end
end PySem.W
namespace PySem.W
open PySem PySem.Spec PySem.Calls PyProof.Rows Builtin Builtin.ObjectAttr
theorem zjR : builtinKind "BaseException.__getattribute__" = some .slot := by decide +kernel
theorem ziP : splitId "BaseException.__getattribute__" = some ("BaseException", "__getattribute__") := by decide +kernel
theorem ziQ : plainId "BaseException.__getattribute__" = true := PySem.F.excAttr_ValueError.ga.plain
theorem zl70(self : Value) (name : Str) (tk : Tok):∃ f:Value→_,Builtin.«object.__getattribute__» ⟨[self, .str name tk], []⟩ = (typeOf self >>= fun tp => find self tp name >>= fun r => match r with
  | .value v => ret v
  | .bind g a => bindTo g a self tp
  | .missing =>f tp):=⟨_,rfl⟩
theorem zl7(self : Value) (name : Str) (tk : Tok):Builtin.«object.__getattribute__» ⟨[self, .str name tk], []⟩ = (typeOf self >>= fun tp => find self tp name >>= fun r => match r with
  | .value v => ret v
  | .bind g a => bindTo g a self tp
  | .missing =>(zl70 self name tk).choose tp):=(zl70 self name tk).choose_spec
section
variable {prog : Program} {w : World} {A : Around} {K : Frag} {C x : Addr} {s : Shared} {ox : Obj} {od : Option Obj} {name : Str} {ini : Option Addr}
theorem zm3 (X : K.In s.heap) (I : InstAt s.heap x ox C od) (hi : xcIn K C ini = true) : Looks (model prog w) s.heap (isInstance (.ref x) (.type "BaseException")) true := by
  obtain ⟨nm, q, N, bs, bm, sn, sub, ab, col, dd, k0, k1, k2, k3, k5, mN, hC, _, _, T, hr⟩ := (xc_of X hi).ex
  have hob : (Value.ref C :: bm).contains (.type "BaseException") = true := by rw [List.contains_cons, T.hasType (X := "BaseException") (b := true) (by decide +kernel), Bool.or_true]
  exact I.type.andThen (fun A' Q' E' s' k z => by
    obtain ⟨h0, g, d, t, os⟩ := s'
    exact wpAny_isSubtype_exc (k _ _ hC) (by rw [hob]; exact z))
theorem zjS {R : Result → Shared → Prop} {tk : Tok} {r : Found} (X : K.In s.heap) (I : InstAt s.heap x ox C od) (hi : xcIn K C ini = true) (hf : findObj K C od name = some r)
    (h : wpAny (model prog w) A.in1 (match r with | .value v => ret v | .bind g a => bindTo g a (.ref x) (.ref C) | .missing => noSuchAttribute (.ref x) name) (fun fin s' => match fin with | .done f => R (.ok f) s' | .again c' => c'.quiet = true ∧ codeAny (model prog w) A c' R s') (fun e s' => R (.error e) s') s)
    (hm : r ≠ .missing) :
    codeAny (model prog w) A (.call (.builtin "BaseException.__getattribute__") ⟨[.ref x, .str name tk], []⟩) R s := by
  refine codeAny_call_builtin ziQ PySem.F.entry_bexc_ga (@check_slot (model prog w) _ _ s "BaseException.__getattribute__" "BaseException" "__getattribute__" (.ref x) [.str name tk] [] _ zjR ziP (zm3 X I hi) (PySem.F.args_bexc_ga (.ref x) (.str name tk)) ?_)
  rw [zl7]
  refine wpAny_bind (I.type.here (wpAny_bind ((looks_find X I hf).here ?_)))
  cases r with
  | value v => exact h
  | bind g a => exact h
  | missing => exact absurd rfl hm
theorem zli {E : Value → Shared → Prop} {tk : Tok} {fill expr : Bool} {Q : Value → Shared → Prop} (X : K.In s.heap) (I : InstAt s.heap x ox C od)
    (hga : findIn K (.ref C) "__getattribute__" = some (some (.builtin "BaseException.__getattribute__"))) (hgn : findIn K (.ref C) "__getattr__" = some none)
    (h : codeAny (model prog w) A (.call (.builtin "BaseException.__getattribute__") ⟨[.ref x, .str name tk], []⟩) (fun r s' => match r with | .ok (.ret v) => wpAny (model prog w) A (handedOut v) Q E s' | _ => False) s) :
    wpAny (model prog w) A (getAttrBy (.ref x) (.str name tk) fill expr) Q E s := by
  have f3 := PySem.F.excAttr_ValueError.ga.bind (.ref x)
  have hx0 : (expr && onTheHeap (Value.builtin "BaseException.__getattribute__")) = false := by cases expr <;> rfl
  have hx2 : (Value.builtin "BaseException.__getattribute__" == Value.builtin "object.__getattribute__") = false := by decide +kernel
  have hx1 : (onTheHeap (Value.ref C) && Value.builtin "BaseException.__getattribute__" == Value.builtin "object.__getattribute__") = false := by rw [hx2]; rfl
  unfold getAttrBy
  refine wpAny_holding (wpAny_bind (I.type.here (wpAny_bind ((looks_findIn X hga).here ?_))))
  dsimp only
  rw [hx1, if_neg Bool.false_ne_true]
  unfold getAttrByItsOwn hookBefore
  refine wpAny_bind ?_
  rw [if_pos (show onTheHeap (Value.ref C) = true from rfl)]
  refine (looks_findIn X hgn).here (wpAny_bind (wpAny_attempt (wpAny_holding ?_)))
  unfold callGetattribute
  rw [hx0, if_neg Bool.false_ne_true]
  unfold boundAndCalled
  rw [f3]
  refine wpAny_bind (wpAny_pure (wpAny_call (codeAny_mono h fun r s' z => ?_)))
  rcases r with e | (v | _ | _ | _) <;> first | exact z | exact z.elim
theorem zl8 {E : Value → Shared → Prop} {Q : Option Value → Shared → Prop} (X : K.In s.heap) (I : InstAt s.heap x ox C od) (hi : xcIn K C ini = true)
    (hga : findIn K (.ref C) "__getattribute__" = some (some (.builtin "BaseException.__getattribute__"))) (hgn : findIn K (.ref C) "__getattr__" = some none)
    (hdct : hasDictIn K C = true) (ha : findIn K (.ref C) "__class__" = some (some (.builtin "object.__class__")))
    (hn : specialIn K (.builtin "object.__class__") "__get__" = some (some (.builtin "getset_descriptor.__get__"))) (htk : takesIn K (.builtin "object.__class__") = some true) (hm : mroIn K C (.type "object") = some true)
    (h : Q (some (.ref C)) { s with toks := s.toks + 1 }) : wpAny (model prog w) A (getAttr? (.ref x) "__class__") Q E s := by
  have hf : findObj K C od "__class__" = some (.bind (.builtin "getset_descriptor.__get__") (.builtin "object.__class__")) := by
    obtain ⟨cd, hc, _⟩ := any_some hdct
    unfold findObj
    rw [hc, Option.bind_some, ha, Option.bind_some]
    dsimp only
    rw [hn, Option.bind_some]
    dsimp only
    rw [htk, Option.bind_some]
  unfold getAttr?
  refine wpAny_bind (wpAny_mkText ?_)
  unfold getAttrBy?
  refine wpAny_bind (wpAny_attempt (zli (s := { s with toks := s.toks + 1 }) X I hga hgn (zjS (s := { s with toks := s.toks + 1 }) X I hi hf ?_ (by intro z; cases z))))
  show wpAny _ _ (holding [_] (call (.builtin "getset_descriptor.__get__") [.builtin "object.__class__", .ref x, .ref C]) >>= ret) _ _ _
  refine wpAny_bind (wpAny_holding (wpAny_call (class_get (s := { s with toks := s.toks + 1 }) X I hm (wpAny_pure ?_))))
  show wpAny _ _ (handedOut (.ref C)) _ _ _
  rw [handedOut_of rfl]
  exact wpAny_pure (wpAny_pure h)
theorem kitx_exc (hi : xcIn K C ini = true)
    (hga : findIn K (.ref C) "__getattribute__" = some (some (.builtin "BaseException.__getattribute__"))) (hgn : findIn K (.ref C) "__getattr__" = some none)
    (hdct : hasDictIn K C = true) (ha : findIn K (.ref C) "__class__" = some (some (.builtin "object.__class__")))
    (hn : specialIn K (.builtin "object.__class__") "__get__" = some (some (.builtin "getset_descriptor.__get__"))) (htk : takesIn K (.builtin "object.__class__") = some true) (hm : mroIn K C (.type "object") = some true) :
    KitX K (.ref x) (.ref C) (fun h => InstAt h x ox C od) where
  ty := fun _ _ _ I => I.type
  it := fun _ _ X _ => by
    obtain ⟨cdD, hcD, _⟩ := any_some hdct
    unfold clsIn at hcD
    split at hcD
    · rename_i c' d' cd' sl' ho
      intro A' Q' E' s' k q
      unfold isType loadHead
      exact wpAny_bind (wpAny_loadPart (k _ _ (X _ _ ho)) (wpAny_pure q))
    · cases hcD
  ne := fun h tp dd its n sl X htp => by
    obtain ⟨cdD, hcD, _⟩ := any_some hdct
    refine Bool.eq_false_iff.mpr fun q => ?_
    have e : C = tp := Value.ref.inj (beq_iff_eq.mp q)
    subst e
    unfold clsIn at hcD
    split at hcD
    · rename_i c' d' cd' sl' ho
      have z := (X _ _ ho).symm.trans htp
      cases z
    · cases hcD
  ca := fun X I k => zl8 X I hi hga hgn hdct ha hn htk hm k
end
end PySem.W
set_option Elab.async false
set_option linter.all false
set_option maxRecDepth 100000
set_option maxHeartbeats 4000000
namespace L2
open PySem PySem.Spec PyProof.Rows
abbrev xobj (C : Addr) (dx : Option Addr) (vs : Array Value) : Obj := { cls := .ref C, dict := dx, data := .fields vs }
def XcO (a C : Addr) (dx : Option Addr) (vs : Array Value) : HO := .ext fun h => h.get? a = some (xobj C dx vs)
theorem ziR {P : Program} {w : World} {H : Hp} {h : Heap} {a C : Addr} {dx : Option Addr} {vs : Array Value} (e : h.get? a = some (xobj C dx vs)) : zbr P w H h a (XcO a C dx vs) := ⟨e, ⟨_, e⟩, fun h1 h2 p k => k _ p⟩
theorem zdP {P : Program} {w : World} {H : Hp} {h : Heap} {a C : Addr} {dx : Option Addr} {vs : Array Value} (hok : HOk P w H h) (e : H a = some (XcO a C dx vs)) : h.get? a = some (xobj C dx vs) := (show zbr P w H h a (XcO a C dx vs) from hok a _ e).1
structure XCls (K : PySem.W.Frag) (C : Addr) : Prop where
  xc : ∃ ini, PySem.W.xcIn K C ini = true
  sa : PySem.W.findIn K (.ref C) "__setattr__" = some (some (.builtin "object.__setattr__"))
  ga : PySem.W.findIn K (.ref C) "__getattribute__" = some (some (.builtin "BaseException.__getattribute__"))
  gn : PySem.W.findIn K (.ref C) "__getattr__" = some none
  hd : PySem.W.hasDictIn K C = true
  cl : PySem.W.findIn K (.ref C) "__class__" = some (some (.builtin "object.__class__"))
  cg : PySem.W.specialIn K (.builtin "object.__class__") "__get__" = some (some (.builtin "getset_descriptor.__get__"))
  ct : PySem.W.takesIn K (.builtin "object.__class__") = some true
  mo : PySem.W.mroIn K C (.type "object") = some true
section
variable {X : Cx} {pins : List (Addr × Obj)} {σ : St} {H : Hp} {s : Shared}
theorem Inv.inst (I : Inv X pins σ H s) {a C : Addr} {dx : Option Addr} {vs : Array Value} (e : H a = some (XcO a C dx vs)) (hd : ∀ d, dx = some d → ∃ fs, H d = some (.xd fs)) : ∃ od, PySem.W.InstAt s.heap a (xobj C dx vs) C od := by
  have g := zdP I.hok e
  cases dx with
  | none => exact ⟨none, g, rfl, rfl, True.intro⟩
  | some d =>
    obtain ⟨fs, hf⟩ := hd d rfl
    obtain ⟨mA, ⟨o, es, ep, ho, _⟩, _⟩ := (show zbr X.prog X.w H s.heap d (.xd fs) from I.hok d _ hf)
    exact ⟨some o, g, rfl, rfl, ho⟩
structure IsX (K : PySem.W.Frag) (H : Hp) (a C : Addr) : Prop where
  cls : XCls K C
  at_ : ∃ dx vs, H a = some (XcO a C dx vs) ∧ ∀ d, dx = some d → ∃ fs, H d = some (.xd fs)
def zm4 (K : PySem.W.Frag) (ta tv : TE) (f : Str) : TS := fun D σ H => tv σ H fun y H1 => ta σ H1 fun x H2 => ∃ a C vs, x = .ref a ∧ H2 a = some (XcO a C none vs) ∧ XCls K C ∧ zd4 K C f ∧
  ∀ d H3, (∀ b o, b ≠ a → H2 b = some o → H3 b = some o) → H2 d = none → H3 a = some (XcO a C (some d) vs) → H3 d = some (.xd [(f, y)]) → D.nx σ H3
theorem zlj {o value : Expr} {f : Str} {pos pos' : Pos} {ta tv : TE} (ha : PE X o ta) (hv : PE X value tv) (hs : swapsWith value (some (.Attribute o f pos')) pos.line X.env = pure false) : PS X (.Assign [.Attribute o f pos'] value pos) (zm4 X.K ta tv f) := by
  with_unfolding_all
    intro pins s σ H D I h
    refine plainObj_wpAny_Assign_Attribute (thn (hv pins s σ H _ I h) fun u s1 ⟨y, H1, I1, ry, q⟩ => thn (ha pins s1 σ H1 _ I1 q) fun ov s2 ⟨x, H2, I2, rx, a, C, vs, ex, ea, c, n, q2⟩ => ?_) hs
    subst ex
    obtain rfl : ov = Value.ref a := rx
    obtain ⟨ini, hi⟩ := c.xc
    have ga := zdP I2.hok ea
    have hd : H2 s2.heap.objs.size = none := I2.hok.fresh (Nat.le_refl _)
    have nda : s2.heap.objs.size ≠ a := Nat.ne_of_gt (Heap.lt_size ga)
    refine PySem.W.xset I2.kIn ga hi c.sa n fun h' g1 g2 g3 g4 => ?_
    have hok : HOk X.prog X.w (upd (upd H2 s2.heap.objs.size (.xd [(f, y)])) a (XcO a C (some s2.heap.objs.size) vs)) h' := by
      intro b ob e
      by_cases hba : b = a
      · subst hba
        rw [zai] at e
        cases e
        exact ziR g1
      · rw [zah hba] at e
        by_cases hbd : b = s2.heap.objs.size
        · subst hbd
          rw [zai] at e
          cases e
          refine ⟨_, g2, fun z => ?_⟩
          show RelO (([(f, y)] : List (Str × V)).lookup z) (if z = f then some u else none)
          by_cases hz : z = f
          · subst hz
            simp only [List.lookup, beq_self_eq_true, if_true]
            exact ry
          · have : (z == f) = false := by simpa using hz
            simp only [List.lookup, this, if_neg hz]
            exact True.intro
        · rw [zah hbd] at e
          refine (I2.hok b ob e).stay (fun c' v hc' r => g4 c' v ?_ r) (fun c' r => ?_) (fun c' xs r => ?_) fun c' ob xs r => ?_
          · rintro rfl
            rcases hc' with z | z
            · exact hba z.symm
            · rw [ea] at z
              cases z
          · rw [zah (fun z => by subst z; rw [ea] at r; cases r), zah (zar r hd)]
            exact r
          · rw [zah (fun z => by subst z; rw [ea] at r; cases r), zah (zar r hd)]
            exact r
          · rw [zah (fun z => by subst z; rw [ea] at r; cases r), zah (zar r hd)]
            exact r
    have un : Un X.fs [] H2 (upd (upd H2 s2.heap.objs.size (.xd [(f, y)])) a (XcO a C (some s2.heap.objs.size) vs)) s2.heap h' := by
      have na : ∀ b, H2 b = none → b ≠ a := fun b n z => by subst z; rw [ea] at n; cases n
      refine ⟨fun b o e n _ _ => g4 b o (na b n) e, fun b o e n _ _ => ⟨o.slots, g4 b o (na b n) e⟩, fun b o e n _ => ?_, fun b o e _ => ?_, fun b xs e => ?_, fun b o' u' e => ?_, fun b lp lq e => ?_⟩
      · rw [zah (na b n), zah (Nat.ne_of_lt (Heap.lt_size e))]
        exact n
      · by_cases hb : b = a
        · subst hb; exact ⟨_, g1⟩
        · exact ⟨o, g4 b o hb e⟩
      · rw [zah (fun z => by subst z; rw [ea] at e; cases e), zah (zar e hd)]
        exact e
      · rw [zah (fun z => by subst z; rw [ea] at e; cases e), zah (zar e hd)]
        exact e
      · rw [zah (fun z => by subst z; rw [ea] at e; cases e), zah (zar e hd)]
        exact e
    refine ⟨σ, _, I2.un un hok, q2 s2.heap.objs.size _ (fun b ob hb e => ?_) hd zai ?_⟩
    · rw [zah hb, zah (zar e hd)]
      exact e
    · rw [zah nda]
      exact zai
end
end L2
set_option Elab.async false
set_option linter.all false
set_option maxRecDepth 100000
set_option maxHeartbeats 4000000
namespace PySem
open L2 (xobj)
def Heap.XFly (h base : Heap) (e C : Addr) (dx : Option Addr) (T : Addr) (fl : Value) : Prop :=
  ∃ vs oT ts, h.get? e = some (xobj C dx vs) ∧ vs[1]? = some (.ref T) ∧ base.get? T = none ∧ T ≠ e ∧ h.get? T = some oT ∧ oT.data = .fields ts ∧ ts[3]? = some fl
def Heap.XAt (base : Heap) (l : List Env) (e C : Addr) (dx : Option Addr) (T : Addr) (fl : Value) (h : Heap) : Prop :=
  base.StaysIn h ∧ base.get? e = none ∧ h.FunFrames base l ∧ h.XFly base e C dx T fl
section
variable {M : Model} {A : Around} {E : Value → Shared → Prop} {s : Shared}
theorem ziS {base : Heap} {env : Env} {outer : List Env} {L e C : Addr} {dx : Option Addr} {vs : Array Value} {head : Value} {hadNext : Bool} {Q : Unit → Shared → Prop}
    (hfr : A.frames = some (env :: outer)) (hl : s.heap.FunFrames base (env :: outer)) (hf : env.frame = some L)
    (he : s.heap.get? e = some (xobj C dx vs)) (hkb : base.StaysIn s.heap) (hen : base.get? e = none) (hsz : 1 < vs.size)
    (h : ∀ h' T', Heap.XAt base (env :: outer) e C dx T' (rawInt L) h' → s.heap.UpToSlots h' → s.heap.objs.size ≤ T' → Q () { s with heap := h' }) :
    wpAny M A (do let a ← frameOf env; let pl ← entryPlaceOf L hadNext; let b ← EntryCells.newEntry head a .none (rawInt L) .none pl; setField (.ref e) 1 b) Q E s := by
  have hd : (xobj C dx vs).data = .fields vs := rfl
  have hene : e ∉ (env :: outer).filterMap (·.frame) := fun hm => by
    obtain ⟨_, o, ho, hnf⟩ := hl.mem hm
    rw [he] at ho; injection ho with ho; subst ho; exact hnf vs hd
  refine wpAny_bind (wpAny_frameOf_fun hfr hl hf fun h₁ hs₁ => ?_)
  refine wpAny_bind (wpAny_entryPlaceOf fun pl hpl => ?_)
  unfold EntryCells.newEntry newFields
  refine wpAny_bind (wpAny_newObj_type ?_ (hpl.sizeOk5 _ _ _ _ _))
  have he₁ : h₁.get? e = some (xobj C dx vs) := (hs₁.2.1 e hene).trans he
  have kb₁ : base.StaysIn h₁ := fun b o hbo => (hs₁.2.1 b fun hm => by rw [(hl.mem hm).1] at hbo; cases hbo).trans (hkb b o hbo)
  have he₂ := Heap.get?_push_of_some (h := h₁) { cls := .type "traceback", dict := none, data := .fields ([head, .ref L, .none, rawInt L, .none] ++ (if pl.isEmpty then List.replicate 6 Value.none else pl)).toArray } he₁
  have hTe : h₁.objs.size ≠ e := Nat.ne_of_gt (Heap.lt_size he₁)
  have hd₃ := Obj.data_mapFields hd (·.setIfInBounds 1 (Value.ref h₁.objs.size))
  have he₃ := Heap.get?_update_self (Obj.mapFields (·.setIfInBounds 1 (Value.ref h₁.objs.size))) he₂ (Obj.isFreed_of_fields hd₃)
  have hT₃ := (Heap.get?_update_other (h₁.push { cls := .type "traceback", dict := none, data := .fields ([head, .ref L, .none, rawInt L, .none] ++ (if pl.isEmpty then List.replicate 6 Value.none else pl)).toArray })
    (Obj.mapFields (·.setIfInBounds 1 (Value.ref h₁.objs.size))) (Ne.symm hTe)).trans (Heap.get?_push_size h₁ rfl)
  have keep : ∀ b o, b ≠ e → h₁.get? b = some o →
      ((h₁.push { cls := .type "traceback", dict := none, data := .fields ([head, .ref L, .none, rawInt L, .none] ++ (if pl.isEmpty then List.replicate 6 Value.none else pl)).toArray }).update e (Obj.mapFields (·.setIfInBounds 1 (Value.ref h₁.objs.size)))).get? b = some o :=
    fun b o hbe hb => by
      rw [Heap.get?_update_other _ _ (Ne.symm hbe)]
      exact Heap.get?_push_of_some _ hb
  have noRecord : ∀ b o, s.heap.get? b = some o → (∀ vs, o.data ≠ .fields vs) → b ≠ e := fun b o hb hnf q => by
    rw [q, he] at hb; injection hb with hb; subst hb; exact hnf vs hd
  refine wpAny_setField he₂ hd hsz (h _ h₁.objs.size ?_ ?_ ?_)
  · refine ⟨fun b o hbo => keep b o (fun q => by rw [q, hen] at hbo; cases hbo) (kb₁ b o hbo), hen, hl.of_keeps fun b o hb hnf => ?_, ?_⟩
    · obtain ⟨sl, hs⟩ := hs₁.2.2 b o hb
      exact ⟨_, keep b _ (noRecord b o hb hnf) hs, rfl⟩
    · exact ⟨_, _, _, he₃, by simp [hsz], kb₁.fresh, hTe, hT₃, rfl, by first | (simp; done) | (rcases hpl with rfl | ⟨_, _, _, _, _, _, _, rfl⟩ <;> simp)⟩
  · intro b o hb hnf
    obtain ⟨sl, hs⟩ := hs₁.2.2 b o hb
    exact ⟨sl, keep b _ (noRecord b o hb hnf) hs⟩
  · rw [hs₁.1]
    exact Nat.le_refl _
theorem zfV {base : Heap} {env : Env} {outer : List Env} {L e C : Addr} {dx : Option Addr} {vs : Array Value} {Q : Unit → Shared → Prop}
    (hfr : A.frames = some (env :: outer)) (hl : s.heap.FunFrames base (env :: outer)) (hf : env.frame = some L)
    (he : s.heap.get? e = some (xobj C dx vs)) (hkb : base.StaysIn s.heap) (hen : base.get? e = none) (h1 : vs[1]? = some .none)
    (h : ∀ h' T', Heap.XAt base (env :: outer) e C dx T' (rawInt L) h' → s.heap.UpToSlots h' → s.heap.objs.size ≤ T' → Q () { s with heap := h' }) : wpAny M A (noteFrame (.ref e) env) Q E s := by
  unfold noteFrame
  simp only [hf]
  refine wpAny_bind (wpAny_field he rfl h1 ?_)
  rw [if_neg (by decide)]
  exact ziS hfr hl hf he hkb hen (Array.getElem?_eq_some_iff.mp h1).1 h
theorem zgC {base : Heap} {env : Env} {outer : List Env} {L e C T : Addr} {dx : Option Addr} {Q : Unit → Shared → Prop}
    (hfr : A.frames = some (env :: outer)) (hf : env.frame = some L) (hx : Heap.XAt base (env :: outer) e C dx T .none s.heap)
    (h : ∀ h' T', Heap.XAt base (env :: outer) e C dx T' (rawInt L) h' → s.heap.UpToSlots h' → s.heap.objs.size ≤ T' → Q () { s with heap := h' }) : wpAny M A (noteFrame (.ref e) env) Q E s := by
  obtain ⟨hkb, hen, hl, vs, oT, ts, he, h1, hnT, hTe, hT, hdT, h3⟩ := hx
  unfold noteFrame
  simp only [hf]
  refine wpAny_bind (wpAny_field he rfl h1 ?_)
  rw [if_pos (show (Value.ref T != Value.none) = true from by simp)]
  refine wpAny_bind (wpAny_field hT hdT h3 ?_)
  rw [if_neg (show ¬ ((Value.none == rawInt L) = true) from by simp [rawInt])]
  refine wpAny_bind (wpAny_setField hT hdT (Array.getElem?_eq_some_iff.mp h3).1 ?_)
  have other : ∀ b, b ≠ T → (s.heap.update T (Obj.mapFields (·.setIfInBounds 3 Value.none))).get? b = s.heap.get? b := fun b hb => Heap.get?_update_other _ _ (Ne.symm hb)
  have noRecord : ∀ b o, s.heap.get? b = some o → (∀ vs, o.data ≠ .fields vs) → b ≠ T := fun b o hb hnf q => by
    rw [q, hT] at hb; injection hb with hb; subst hb; exact hnf ts hdT
  refine ziS hfr (hl.of_keeps fun b o hb hnf => ⟨o, (other b (noRecord b o hb hnf)).trans hb, rfl⟩) hf ((other e (Ne.symm hTe)).trans he)
    (fun b o hbo => (other b fun q => by rw [q, hnT] at hbo; cases hbo).trans (hkb b o hbo)) hen (Array.getElem?_eq_some_iff.mp h1).1
    fun h' T' x1 x2 x3 => h h' T' x1 (fun b o hb hnf => x2 b o ((other b (noRecord b o hb hnf)).trans hb) hnf) (by rw [Heap.size_after_update] at x3; exact x3)
theorem zhe {base : Heap} {l : List Env} {e C T : Addr} {dx : Option Addr} {fl : Value} {Q : Unit → Shared → Prop} (hx : Heap.XAt base l e C dx T fl s.heap)
    (h : ∀ h', Heap.XAt base l e C dx T .none h' → s.heap.UpToSlots h' → Q () { s with heap := h' }) : wpAny M A (setFlight (.ref e) none) Q E s := by
  obtain ⟨hkb, hen, hl, vs, oT, ts, he, h1, hnT, hTe, hT, hdT, h3⟩ := hx
  have hsz3 : 3 < ts.size := (Array.getElem?_eq_some_iff.mp h3).1
  have other : ∀ b, b ≠ T → (s.heap.update T (Obj.mapFields (·.setIfInBounds 3 ((none : Option Addr).elim Value.none fun f => rawInt f)))).get? b = s.heap.get? b :=
    fun b hb => Heap.get?_update_other _ _ (Ne.symm hb)
  have noRecord : ∀ b o, s.heap.get? b = some o → (∀ vs, o.data ≠ .fields vs) → b ≠ T := fun b o hb hnf q => by
    rw [q, hT] at hb; injection hb with hb; subst hb; exact hnf ts hdT
  unfold setFlight
  refine wpAny_bind (wpAny_field he rfl h1 ?_)
  rw [if_pos (show (Value.ref T != Value.none) = true from by simp)]
  refine wpAny_setField hT hdT hsz3 (h _ ⟨fun b o hbo => (other b fun q => by rw [q, hnT] at hbo; cases hbo).trans (hkb b o hbo), hen,
    hl.of_keeps fun b o hb hnf => ⟨o, (other b (noRecord b o hb hnf)).trans hb, rfl⟩, ?_⟩ (fun b o hb hnf => ⟨o.slots, (other b (noRecord b o hb hnf)).trans hb⟩))
  exact ⟨vs, _, _, (other e (Ne.symm hTe)).trans he, h1, hnT, hTe, Heap.get?_update_self _ hT (Obj.isFreed_of_fields (Obj.data_mapFields hdT _)), Obj.data_mapFields hdT _, by simp [hsz3]⟩
theorem zfW {base : Heap} {env : Env} {outer : List Env} {L e C T : Addr} {dx : Option Addr} {Q : Unit → Shared → Prop}
    (hfr : A.frames = some (env :: outer)) (hf : env.frame = some L) (hx : Heap.XAt base (env :: outer) e C dx T .none s.heap)
    (h : ∀ h' T', Heap.XAt base (env :: outer) e C dx T' .none h' → s.heap.UpToSlots h' → s.heap.objs.size ≤ T' → Q () { s with heap := h' }) : wpAny M A (leaving env (.ref e)) Q E s := by
  unfold leaving
  refine wpAny_bind (zgC hfr hf hx fun h1 T' a b c => ?_)
  exact zhe (s := { s with heap := h1 }) a fun h2 a2 b2 => h h2 T' a2 (b.trans b2) c
theorem zfo {base : Heap} {env : Env} {outer : List Env} {L e C : Addr} {dx : Option Addr} {vs : Array Value} {Q : Unit → Shared → Prop}
    (hfr : A.frames = some (env :: outer)) (hl : s.heap.FunFrames base (env :: outer)) (hf : env.frame = some L)
    (he : s.heap.get? e = some (xobj C dx vs)) (hkb : base.StaysIn s.heap) (hen : base.get? e = none) (h1 : vs[1]? = some .none)
    (h : ∀ h' T', Heap.XAt base (env :: outer) e C dx T' .none h' → s.heap.UpToSlots h' → s.heap.objs.size ≤ T' → Q () { s with heap := h' }) : wpAny M A (leaving env (.ref e)) Q E s := by
  unfold leaving
  refine wpAny_bind (zfV hfr hl hf he hkb hen h1 fun h1 T' a b c => ?_)
  exact zhe (s := { s with heap := h1 }) a fun h2 a2 b2 => h h2 T' a2 (b.trans b2) c
end
end PySem
namespace L2
open PySem PySem.Spec PyProof.Rows
def apart (X : Cx) (h : Heap) (e : Addr) (T : List Addr) : Heap := PySem.W.hideAll h (e :: (T ++ frs X.stack))
section
variable {X : Cx} {pins : List (Addr × Obj)} {σ : St} {H : Hp} {s : Shared} {e C T : Addr} {dx : Option Addr} {vs : Array Value}
theorem zeu {Ts : List Addr} {h : Heap} : (apart X h e Ts).StaysIn h := fun b o q => PySem.W.of_hideAll _ q
theorem ziT {Ts : List Addr} {h : Heap} {b : Addr} {o : Obj} (q : h.get? b = some o) (h1 : b ≠ e) (h2 : b ∉ Ts) (h3 : b ∉ frs X.stack) : (apart X h e Ts).get? b = some o :=
  PySem.W.hideAll_get _ q fun hm => by
    rcases List.mem_cons.mp hm with z | z
    · exact h1 z
    · rcases List.mem_append.mp z with z | z
      · exact h2 z
      · exact h3 z
theorem zdh {Ts : List Addr} {h : Heap} {b : Addr} (hb : b = e ∨ b ∈ Ts ∨ b ∈ frs X.stack) : (apart X h e Ts).get? b = none :=
  PySem.W.hideAll_none _ (by
    rcases hb with z | z | z
    · rw [z]; exact List.mem_cons_self
    · exact List.mem_cons_of_mem _ (List.mem_append_left _ z)
    · exact List.mem_cons_of_mem _ (List.mem_append_right _ z))
theorem zd6 {Ts : List Addr} (I : Inv X pins σ H s) : s.heap.FunFrames (apart X s.heap e Ts) X.stack := by
  have key : ∀ l : List Env, (∀ b ∈ frs l, b ∈ frs X.stack) → s.heap.FunFrames X.base l → s.heap.FunFrames (apart X s.heap e Ts) l := by
    intro l
    induction l with
    | nil => intro _ _; trivial
    | cons env r ih =>
      intro hs hl
      obtain ⟨hk, ⟨L, o, hf, hn, ho, hd⟩, hr⟩ := hl
      have hL : L ∈ frs X.stack := hs L (by unfold frs; rw [List.filterMap_cons, hf]; exact List.mem_cons_self)
      exact ⟨hk, ⟨L, o, hf, zdh (.inr (.inr hL)), ho, hd⟩, ih (fun b hb => hs b (by unfold frs; rw [List.filterMap_cons, hf]; exact List.mem_cons_of_mem _ hb)) hr⟩
  exact key X.stack (fun _ h => h) I.stack
theorem Inv.shaken {h' : Heap} {vs' : Array Value} {Ts : List Addr} (I : Inv X pins σ H s) (he : H e = some (XcO e C dx vs)) (hn : ∀ b ∈ Ts, H b = none)
    (hT : ∀ b ∈ Ts, X.s₀.heap.objs.size ≤ b ∧ b ≠ X.env.locals ∧ (∀ x c, X.env.cells.lookup x = some c → c ≠ b) ∧ ∀ p ∈ X.pn ++ pins, p.1 ≠ b)
    (hs : (apart X s.heap e Ts).StaysIn h') (up : s.heap.UpToSlots h') (he' : h'.get? e = some (xobj C dx vs')) :
    Inv X pins σ (upd H e (XcO e C dx vs')) { s with heap := h' } := by
  have ge := zdP I.hok he
  have nfr : e ∉ frs X.stack := fun z => by rw [I.stkFree e z] at he; cases he
  have frL : X.env.locals ∈ frs X.stack ∨ X.env.locals ∉ frs X.stack := Classical.em _
  have dat : ∀ b ∈ frs X.stack, ∃ o, s.heap.get? b = some o ∧ ∀ ws, o.data ≠ .fields ws := fun b hb => by
    obtain ⟨_, o, ho, hd⟩ := I.stack.mem hb
    exact ⟨o, ho, hd⟩
  have keepN : ∀ b o, b ≠ e → b ∉ Ts → b ∉ frs X.stack → s.heap.get? b = some o → h'.get? b = some o := fun b o h1 h2 h3 q => hs b o (ziT q h1 h2 h3)
  have ne : ∀ b, H b = none → b ≠ e := fun b n z => by subst z; rw [he] at n; cases n
  refine I.step (g' := s.gens) (d' := s.drawn) (ch := Ts) (fun b hb => ⟨.inr (hT b hb).1, (hT b hb).2⟩) (fun b o hL hb hc q n => keepN b o (ne b n) hc (fun z => by
      rcases List.mem_cons.mp (I.stkSub b z) with z | z
      · exact hL z
      · exact hb z) q) (fun b o hL hb hc q n => ?_) (fun b o hc q n => by rw [zah (ne b n)]; exact n) (fun b o hc q => ?_) (fun b xs q => by rw [zah (fun z => by subst z; rw [he] at q; cases q)]; exact q)
      (fun b o u q => by rw [zah (fun z => by subst z; rw [he] at q; cases q)]; exact q) (fun b lp lq q => by rw [zah (fun z => by subst z; rw [he] at q; cases q)]; exact q) (fun m hm => up.ns hm) (fun b u q => ?_) I.bare
  · by_cases hf : b ∈ frs X.stack
    · obtain ⟨o', ho', hd⟩ := dat b hf
      rw [q] at ho'
      cases ho'
      exact up b o q hd
    · exact ⟨o.slots, keepN b o (ne b n) hc hf q⟩
  · by_cases hbe : b = e
    · subst hbe; exact ⟨_, he'⟩
    · by_cases hf : b ∈ frs X.stack
      · obtain ⟨o', ho', hd⟩ := dat b hf
        obtain ⟨sl, z⟩ := up b o' ho' hd
        exact ⟨_, z⟩
      · exact ⟨o, keepN b o hbe hc hf q⟩
  · by_cases hbe : b = e
    · subst hbe
      rw [zai] at q
      cases q
      exact ziR he'
    · rw [zah hbe] at q
      refine (I.hok b u q).stay (fun c v hc z => keepN c v ?_ ?_ ?_ z) (fun c z => by rw [zah (fun y => by subst y; rw [he] at z; cases z)]; exact z) (fun c xs z => by rw [zah (fun y => by subst y; rw [he] at z; cases z)]; exact z) fun c ob xs z => by rw [zah (fun y => by subst y; rw [he] at z; cases z)]; exact z
      · rintro rfl
        rcases hc with z | z
        · exact hbe z.symm
        · rw [he] at z; cases z
      · intro y
        have := hn c y
        rcases hc with z | z
        · rw [z, q] at this; cases this
        · rw [z] at this; cases this
      · intro y
        have := I.stkFree c y
        rcases hc with z | z
        · rw [z, q] at this; cases this
        · rw [z] at this; cases this
end
structure Flies (h : Heap) (H : Hp) (low : Nat) (a C T : Addr) (dx : Option Addr) (vs : Array Value) : Prop where
  at_ : H a = some (XcO a C dx vs)
  tr : vs[1]? = some (.ref T)
  new : low ≤ T
  free : H T = none
  ne : T ≠ a
  dict : ∀ y, dx = some y → ∃ fs, H y = some (.xd fs)
  recd : ∃ oT ts, h.get? T = some oT ∧ oT.data = .fields ts ∧ ts[3]? = some .none
theorem zhf {H : Hp} {a C : Addr} {dx : Option Addr} {vs vs' : Array Value} (e : H a = some (XcO a C dx vs)) (d : ∀ y, dx = some y → ∃ fs, H y = some (.xd fs)) : ∀ y, dx = some y → ∃ fs, (upd H a (XcO a C dx vs')) y = some (.xd fs) := fun y q => by
  obtain ⟨fs, z⟩ := d y q
  refine ⟨fs, ?_⟩
  rw [zah (zhK z e (by intro z; cases z))]
  exact z
def CX1 (P : Program) (w : World) : CXT := fun outer H s E e s' => ∃ (a T C : Addr) (dx : Option Addr) (vs : Array Value) (H' : Hp), e = .ref a ∧ s'.os = s.os ∧ AllBare s'.gens ∧ Un (frs outer) [] H H' s.heap s'.heap ∧ HOk P w H' s'.heap ∧ s.heap.objs.size ≤ s'.heap.objs.size ∧
  Flies s'.heap H' s.heap.objs.size a C T dx vs ∧ ∀ vs', E (.ref C) (some a) (upd H' a (XcO a C dx vs'))
end L2
set_option Elab.async false
set_option linter.all false
set_option maxRecDepth 100000
set_option maxHeartbeats 4000000
namespace L2
open PySem PySem.Spec PyProof.Rows
section
variable {X : Cx} {pins : List (Addr × Obj)} {σ : St} {H H1 : Hp} {s s1 : Shared} {a C T : Addr} {dx : Option Addr} {vs : Array Value}
theorem Inv.beyond (I : Inv X pins σ H s) {b : Addr} (hb : s.heap.objs.size ≤ b) : X.s₀.heap.objs.size ≤ b ∧ b ≠ X.env.locals ∧ (∀ x c, X.env.cells.lookup x = some c → c ≠ b) ∧ (∀ p ∈ X.pn ++ pins, p.1 ≠ b) ∧ b ∉ frs X.stack := by
  refine ⟨Nat.le_trans I.sz hb, Nat.ne_of_gt (Nat.lt_of_lt_of_le I.lt hb), fun x c e z => ?_, fun p hp z => ?_, fun z => ?_⟩
  · obtain ⟨v, o, ho, _⟩ := I.cell x c e
    rw [z] at ho
    exact absurd (Nat.lt_of_lt_of_le (Heap.lt_size ho) hb) (Nat.lt_irrefl _)
  · obtain ⟨ho, _⟩ := I.pin p hp
    rw [z] at ho
    exact absurd (Nat.lt_of_lt_of_le (Heap.lt_size ho) hb) (Nat.lt_irrefl _)
  · obtain ⟨_, o, ho, _⟩ := I.stack.mem z
    exact absurd (Nat.lt_of_lt_of_le (Heap.lt_size ho) hb) (Nat.lt_irrefl _)
theorem Flies.xat {n : Nat} (F : Flies s1.heap H1 n a C T dx vs) (J : Inv X pins σ H1 s1) : Heap.XAt (apart X s1.heap a [T]) X.stack a C dx T .none s1.heap := by
  obtain ⟨oT, ts, h1, h2, h3⟩ := F.recd
  exact ⟨zeu, zdh (.inl rfl), zd6 J, vs, oT, ts, zdP J.hok F.at_, F.tr, zdh (.inr (.inl (by simp))), F.ne, h1, h2, h3⟩
theorem Flies.on {h' : Heap} {T' : Addr} (F : Flies s1.heap H1 s.heap.objs.size a C T dx vs) (I : Inv X pins σ H s) (J : Inv X pins σ H1 s1) (x : Heap.XAt (apart X s1.heap a [T]) X.stack a C dx T' .none h') (up : s1.heap.UpToSlots h') (hn : s1.heap.objs.size ≤ T' ∨ T' = T)
    (hz : s.heap.objs.size ≤ s1.heap.objs.size) :
    ∃ vs', Inv X pins σ (upd H1 a (XcO a C dx vs')) { s1 with heap := h' } ∧ Flies h' (upd H1 a (XcO a C dx vs')) s.heap.objs.size a C T' dx vs' := by
  obtain ⟨x1, x2, x3, vs', oT, ts, he, h1, hnT, hTe, hT, hdT, h3⟩ := x
  obtain ⟨b1, b2, b3, b4, b5⟩ := I.beyond F.new
  have w : s.heap.objs.size ≤ T' ∧ H1 T' = none := by
    rcases hn with z | z
    · exact ⟨Nat.le_trans hz z, J.hok.fresh z⟩
    · rw [z]; exact ⟨F.new, F.free⟩
  refine ⟨vs', J.shaken F.at_ (fun b hb => ?_) (fun b hb => ?_) x1 up he, ⟨zai, h1, w.1, ?_, hTe, zhf F.at_ F.dict, oT, ts, hT, hdT, h3⟩⟩
  · have e : b = T := by simpa using hb
    rw [e]; exact F.free
  · have e : b = T := by simpa using hb
    rw [e]; exact ⟨b1, b2, b3, b4⟩
  · rw [zah hTe]; exact w.2
end
theorem Flies.low {h : Heap} {H : Hp} {m n : Nat} {a C T : Addr} {dx : Option Addr} {vs : Array Value} (F : Flies h H m a C T dx vs) (l : n ≤ m) : Flies h H n a C T dx vs := ⟨F.at_, F.tr, Nat.le_trans l F.new, F.free, F.ne, F.dict, F.recd⟩
section
variable {P : Program} {w : World} {K : PySem.W.Frag} {mg : Str → Option Value} {base : Heap} {N : List Str} {qual : Str} {scope : Scope} {f : Addr} {cd : Value} {A : Around} {outer : List Env} {s₀ : Shared} {H₀ : Hp} {E : XK}
theorem zlk : ze2 (CX1 P w) (cxOf (CX1 P w) P w K mg base N qual scope f cd A outer s₀ H₀ E) E := by
  intro pins σ H1 s1 e s' I h
  obtain ⟨a, T, C, dx, vs, H2, rfl, os, gb, un, hok, hz, F, hE⟩ := h
  have J := I.call' os un hok gb (fun b hb => absurd hb (by simp))
  refine zfW (L := s₀.heap.objs.size) I.ok.frames rfl (F.xat J) fun h' T' x up hn => ?_
  obtain ⟨vs', J', F'⟩ := F.on I J x up (.inl hn) hz
  refine ⟨a, T', C, dx, vs', _, rfl, J'.os, J'.bare, J'.base, J'.hok, J'.sz, F'.low I.sz, fun vs2 => ?_⟩
  rw [zii]
  exact hE vs2
end
theorem zbr.there {P : Program} {w : World} {H : Hp} {h : Heap} {a : Addr} {o : HO} (x : zbr P w H h a o) : ∃ ob, h.get? a = some ob := by
  cases o with
  | lst xs => obtain ⟨_, _, _, _, e⟩ := x; exact ⟨_, e⟩
  | tup xs => obtain ⟨_, _, _, o, e, _⟩ := x; exact ⟨_, e⟩
  | dK kvs => obtain ⟨_, _, _, _, o, _, _, e, _⟩ := x; exact ⟨_, e⟩
  | dT kvs => obtain ⟨_, _, _, _, o, _, _, e, _⟩ := x; exact ⟨_, e⟩
  | set S n => obtain ⟨o, _, _, _, e, _⟩ := x; exact ⟨_, e⟩
  | ins C dx fs => obtain ⟨_, _, _, e, _⟩ := x; exact ⟨_, e⟩
  | own y => exact x
  | xd fs => obtain ⟨_, ⟨_, _, _, e, _⟩, _⟩ := x; exact ⟨_, e⟩
  | rng lo hi => obtain ⟨_, _, _, e⟩ := x; exact ⟨_, e⟩
  | frz ob u => obtain ⟨e, _⟩ := x; exact ⟨_, e⟩
  | tbl lp lq => obtain ⟨_, e, _⟩ := x; exact ⟨_, e⟩
  | met f y => exact ⟨_, (show h.get? a = some _ from x)⟩
  | ext φ => exact x.2.1
section
variable {X : Cx} {pins : List (Addr × Obj)} {σ : St} {H : Hp} {s : Shared}
theorem Inv.xmade {h' : Heap} {e C : Addr} {us : List Value} (I : Inv X pins σ H s) (hm : Heap.MadeExcOf s.heap h' e (.ref C) us) :
    ∃ t, H e = none ∧ Inv X pins σ (upd H e (XcO e C none #[.ref t, .none, .none, .none, .bool false, .none])) { s with heap := h' } := by
  obtain ⟨t, g1, g2, g3⟩ := hm.there
  have hn : H e = none := by
    cases q : H e with
    | none => rfl
    | some o =>
      obtain ⟨ob, z⟩ := (I.hok e o q).there
      rw [hm.new] at z
      cases z
  refine ⟨t, hn, I.un (t' := s.toks) ⟨fun b o q _ _ _ => hm.keeps b o q, fun b o q _ _ _ => ⟨o.slots, hm.keeps b o q⟩, fun b o q n _ => ?_, fun b o q _ => ⟨o, hm.keeps b o q⟩, fun b xs q => ?_, fun b o u q => ?_, fun b lp lq q => ?_⟩ fun b u q => ?_⟩
  · rw [zah (fun z => by subst z; rw [hm.new] at q; cases q)]
    exact n
  · rw [zah (zar q hn)]
    exact q
  · rw [zah (zar q hn)]
    exact q
  · rw [zah (zar q hn)]
    exact q
  · by_cases hb : b = e
    · subst hb
      rw [zai] at q
      cases q
      exact ziR g1
    · rw [zah hb] at q
      exact (I.hok b u q).stay (fun c v _ z => hm.keeps c v z) (fun c z => by rw [zah (zar z hn)]; exact z) (fun c xs z => by rw [zah (zar z hn)]; exact z) fun c ob xs z => by rw [zah (zar z hn)]; exact z
end
structure XMk (K : PySem.W.Frag) (C : Addr) (ini : Option Addr) : Prop where
  cls : XCls K C
  xc : PySem.W.xcIn K C ini = true
  kp : PySem.W.keepIn K (.ref C) = true
  fn : ∀ f, ini = some f → PySem.W.isFn K (.ref f) = true
def zev (K : PySem.W.Frag) (C : Addr) (f : Str) : Sp := fun vs H Q _ => ∃ a v ws, vs = [.ref a, v] ∧ XCls K C ∧ zd4 K C f ∧ H a = some (XcO a C none ws) ∧
  ∀ d H2, (∀ b o, b ≠ a → H b = some o → H2 b = some o) → H d = none → H2 a = some (XcO a C (some d) ws) → H2 d = some (.xd [(f, v)]) → Q .non H2
def zkB (C : Addr) (f : Str) (t : TA) : TE := fun σ H Q => t σ H fun vs H1 => ∃ v, vs = [v] ∧ ∀ a d ws H2, Same H1 H2 → H1 a = none → ws[1]? = some Value.none → H2 a = some (XcO a C (some d) ws) → H2 d = some (.xd [(f, v)]) → Q (.ref a) H2
section
variable {X : Cx} {k : Nat} {fI C : Addr} {fd : FuncData} {ps : List Str} {x fn : Str} {p pos : Pos} {e : Expr} {es : List Expr} {t : TA}
theorem ziU {pins : List (Addr × Obj)} {σ : St} {H : Hp} {s : Shared} {Q : VK} {us : List Value} {v : V} (M : XMk X.K C (some fI)) (n : zd4 X.K C fn) (F : FnOk X.prog X.w X.K X.mg X.base CX0 k fI fd ps (zev X.K C fn)) (hr : Room (k + 1) X.A) (hb : zb6 X.K fd ps [])
    (I : Inv X pins σ H s) (r : Vals [v] us)
    (h : ∀ a d ws H2, Same H H2 → H a = none → ws[1]? = some Value.none → H2 a = some (XcO a C (some d) ws) → H2 d = some (.xd [(fn, v)]) → Q (.ref a) H2) :
    wpAny (model X.prog X.w) X.A (call (.ref C) us) (EP X pins σ Q) X.xe s := by
  obtain ⟨nm, q, N, bs, bm, sn, sub, ab, col, dd, k0, k1, k2, k3, k5, mN, hC, hNs, hini, T, hrf⟩ := (PySem.W.xc_of I.kIn M.xc).ex
  have hfn := M.fn fI rfl
  obtain ⟨oI, hfI, hfc⟩ : ∃ oI, s.heap.get? fI = some oI ∧ oI.cls = .type "function" := PySem.W.fn_obj I.kIn hfn
  have hu1 : us.length ≤ sizeLine := by rw [← r.length]; exact sz 1 (by decide)
  obtain ⟨hp, g, dr, tk, os⟩ := s
  refine zlh PySem.F.excBase_ValueError T hC hNs hini hfI hfc (fun h' a hm => ?_) hu1
  obtain ⟨t0, hn, I2⟩ := Inv.xmade (s := ⟨hp, g, dr, tk, os⟩) I hm
  have r2 : Vals [V.ref a, v] (Value.ref a :: us) := .cons rfl r
  have hq : zev X.K C fn [V.ref a, v] (upd H a (XcO a C none #[.ref t0, .none, .none, .none, .bool false, .none])) (fun v H2 => v = .non ∧ Q (.ref a) H2) E0 := by
    refine ⟨a, v, _, rfl, M.cls, n, zai, fun d H2 k1 hd k2 k3 => ⟨rfl, ?_⟩⟩
    refine h a d _ H2 (fun b o q => k1 b o (zar q hn) ?_) hn rfl k2 k3
    rw [zah (zar q hn)]
    exact q
  have hl : (Value.ref a :: us ++ []).length = ps.length := by
    have e := r2.length
    rw [F.len _ _ _ _ hq] at e
    rw [List.append_nil]
    exact e.symm
  have hb2 := hb ⟨h', g, dr, tk, os⟩ (Value.ref a :: us) I2.kIn hl
  rw [List.append_nil] at hb2
  refine wpAny_call (codeAny_mono (F.run _ X.stack _ _ ⟨Value.ref a :: us, []⟩ (Value.ref a :: us) _ _ E0 (hr.make C us []) (I2.env0.make C us []) hb2 r2 hq) fun r s' hq' => ?_)
  cases r with
  | error e => exact hq'.elim
  | ok fl =>
    cases fl with
    | ret u =>
      obtain ⟨v, H', I3, rv, ev, q3⟩ := I2.after hq'
      subst ev
      exact ⟨rv, ⟨V.ref a, H', I3, rfl, q3⟩⟩
    | next => exact False.elim hq'
    | brk => exact False.elim hq'
    | cont => exact False.elim hq'
theorem zjT (M : XMk X.K C (some fI)) (n : zd4 X.K C fn) (F : FnOk X.prog X.w X.K X.mg X.base CX0 k fI fd ps (zev X.K C fn)) (hr : Room (k + 1) X.A) (hb : zb6 X.K fd ps []) (hg : Gl X x) (hm : X.mg x = some (.ref C))
    (ha : PA X (e :: es) t) (hdb : (x == ("__debug__" : Str)) = false := by decide) (he : starEach (e :: es) X.env = (false, eval e X.env) :: starEach es X.env := by rfl) (hpl : (backTo pos (starEach es X.env)).any (·.1) = false := by rfl) :
    PE X (.Call (.Name x p) (e :: es) [] pos) (zkB C fn t) := by
  with_unfolding_all
    intro pins s σ H Q I h
    refine wpAny_Call_Name_kw (zil I hg hm ?_ hdb)
    refine PySem.W.callWith_K (h₀ := X.base) I.ok.mod.kin M.kp (thn (ha pos pins s σ H _ I h) fun us s1 ⟨vs, H1, I1, r, v, ev, q⟩ => ⟨I1.kIn, ?_⟩) he hpl
    subst ev
    exact ziU M n F hr hb I1 r q
end
theorem zgD {M : Model} {A : Around} {E : Value → Shared → Prop} {env : Env} {s : Shared} {x : Sem Value} {Q : Flow → Shared → Prop} {C : Addr} (hh : A.handled = none)
    (h : wpAny M A x (fun v s₁ => ∃ e dx vs nm q N bs bm sn sub ab col dd k0 k1 k2 k3 k5, v = .ref e ∧ s₁.heap.get? C = some (excClassObj nm q C N bs bm true sn sub ab col dd k0 k1 k2 k3 k5 "ValueError.__new__") ∧ bm.contains (.type "BaseException") = true ∧
      s₁.heap.get? e = some (xobj C dx vs) ∧ vs[1]? = some .none ∧ E (.ref e) s₁) E s) :
    wpAny M A (raiseStmt env (some x) none) Q E s := by
  unfold raiseStmt
  refine wpAny_bind (wpAny_mono h (fun v s₁ h₁ => ?_) fun _ _ x => x)
  obtain ⟨e, dx, vs, nm, q, N, bs, bm, sn, sub, ab, col, dd, k0, k1, k2, k3, k5, rfl, hC, hbase, he, h1, hE⟩ := h₁
  have hcB : (Value.ref C :: bm).contains (.type "BaseException") = true := by rw [List.contains_cons, hbase, Bool.or_true]
  obtain ⟨hp, g, d, tk, os⟩ := s₁
  repeat (first | with_reducible refine wpAny_loadPart_at he ?_ | with_reducible refine wpAny_loadPart_at hC ?_ | (with_reducible refine wpAny_isSubtype_exc hC ?_; rw [hcB]) | wp_step)
  rw [h1]
  refine wpAny_pure ?_
  rw [if_neg (by decide)]
  exact wpAny_pure (wpAny_raiseNew_none hh hE)
section
variable {P : Program} {w : World} {K : PySem.W.Frag} {mg : Str → Option Value} {base : Heap} {N : List Str} {qual : Str} {scope : Scope} {f : Addr} {cd : Value} {A : Around} {outer : List Env} {s₀ : Shared} {H₀ : Hp} {E : XK}
theorem zjU {pins : List (Addr × Obj)} {σ : St} {H : Hp} {s : Shared} {a C : Addr} {dx : Option Addr} {vs : Array Value} (I : Inv (cxOf (CX1 P w) P w K mg base N qual scope f cd A outer s₀ H₀ E) pins σ H s) (ea : H a = some (XcO a C dx vs)) (h1 : vs[1]? = some .none) (hd : ∀ y, dx = some y → ∃ fs, H y = some (.xd fs))
    (hE : ∀ vs', E (.ref C) (some a) (upd H a (XcO a C dx vs'))) : (cxOf (CX1 P w) P w K mg base N qual scope f cd A outer s₀ H₀ E).xe (.ref a) s := by
  refine zfo (base := apart (cxOf (CX1 P w) P w K mg base N qual scope f cd A outer s₀ H₀ E) s.heap a []) (L := s₀.heap.objs.size) I.ok.frames (zd6 I) rfl (zdP I.hok ea) zeu (zdh (.inl rfl)) h1 fun h' T' x up hn => ?_
  obtain ⟨x1, x2, x3, vs', oT, ts, he, h1, hnT, hTe, hT, hdT, h3⟩ := x
  have J := I.shaken (Ts := []) ea (fun b hb => absurd hb (by simp)) (fun b hb => absurd hb (by simp)) x1 up he
  refine ⟨a, T', C, dx, vs', _, rfl, J.os, J.bare, J.base, J.hok, J.sz, ⟨zai, h1, Nat.le_trans I.sz hn, ?_, hTe, zhf ea hd, oT, ts, hT, hdT, h3⟩, fun vs2 => ?_⟩
  · rw [zah hTe]
    exact I.hok.fresh hn
  · rw [zii]
    exact hE vs2
def zl9 (C : Addr) (te : TE) (E : XK) : TS := fun _ σ H => te σ H fun v H1 => ∃ a dx vs, v = .ref a ∧ H1 a = some (XcO a C dx vs) ∧ vs[1]? = some Value.none ∧ (∀ y, dx = some y → ∃ fs, H1 y = some (.xd fs)) ∧ ∀ vs', E (.ref C) (some a) (upd H1 a (XcO a C dx vs'))
theorem zjV {C : Addr} {e : Expr} {pos : Pos} {te : TE} (hc : XCls K C) (hh : A.handled = none) (he : PE (cxOf (CX1 P w) P w K mg base N qual scope f cd A outer s₀ H₀ E) e te) :
    PS (cxOf (CX1 P w) P w K mg base N qual scope f cd A outer s₀ H₀ E) (.Raise (some e) none pos) (zl9 C te E) := by
  with_unfolding_all
    intro pins s σ H D I h
    rw [arm_exec_Raise]
    refine wpAny_bind (wpAny_standAt (zgD (C := C) hh ?_))
    simp only [evalOpt, Option.map]
    refine wpAny_bind (thn (he pins s σ H _ I h) fun u s1 ⟨v, H1, I1, r, a, dx, vs, ev, ea, h1, hd, hE⟩ => wpAny_bind (wpAny_standAt (wpAny_pure ?_)))
    subst ev
    cases (show u = Value.ref a from r)
    obtain ⟨ini, hi⟩ := hc.xc
    obtain ⟨nm, q, N, bs, bm, sn, sub, ab, col, dd, k0, k1, k2, k3, k5, mN, hC, hNs, hini, T, hrf⟩ := (PySem.W.xc_of I1.kIn hi).ex
    exact ⟨a, dx, vs, nm, q, N, bs, bm, sn, sub, ab, col, dd, k0, k1, k2, k3, k5, rfl, hC, T.hasType (X := "BaseException") (b := true) (by decide +kernel), zdP I1.hok ea, h1, zjU I1 ea h1 hd hE⟩
end
end L2
set_option Elab.async false
set_option linter.all false
set_option maxRecDepth 100000
set_option maxHeartbeats 4000000
namespace L2
open PySem PySem.Spec PyProof.Rows
section
variable {X : Cx} {σ : St}
end
structure Aside (X : Cx) (pins : List (Addr × Obj)) (b : Addr) : Prop where
  p : X.s₀.heap.objs.size ≤ b ∧ b ≠ X.env.locals ∧ (∀ x c, X.env.cells.lookup x = some c → c ≠ b) ∧ ∀ p ∈ X.pn ++ pins, p.1 ≠ b
section
variable {X : Cx} {pins pins' : List (Addr × Obj)} {σ τ : St} {H : Hp} {s : Shared} {W : XK}
end
structure Cal1 (P : Program) (w : World) (K : PySem.W.Frag) (mg : Str → Option Value) (base : Heap) (x : Str) (k : Nat) (ps : List Str) (sp : Sp) : Prop where
  ex : ∃ f fd, FnOk P w K mg base (CX1 P w) k f fd ps sp ∧ zb6 K fd ps [] ∧ mg x = some (.ref f) ∧ PySem.W.keepIn K (.ref f) = true
theorem Dfn.cal1 {P : Program} {w : World} {K : PySem.W.Frag} {mg : Str → Option Value} {base : Heap} {x : Str} {st : Stmt} {ps : List Str} {f : Addr} {fd : FuncData} {k : Nat} {sp : Sp}
    (D : Dfn K mg x st ps f fd) (G : FnOk P w K mg base (CX1 P w) k f fd ps sp) : Cal1 P w K mg base x k ps sp := ⟨⟨f, fd, G, D.b, D.m, D.F.kp⟩⟩
theorem Fun.ok1 {P : Program} {w : World} {K : PySem.W.Frag} {mg : Str → Option Value} {base : Heap} {x qual : Str} {st : Stmt} {f : Addr} {fd : FuncData} {N ps : List Str} {k : Nat} {sp : Sp} (F : Fun K x qual st f fd) (S : FnScope N ps (zad st)) (len : ∀ vs H Q E, sp vs H Q E → vs.length = ps.length)
    (hbody : ∀ (cdv : Value) (A : Around) (outer : List Env) (s : Shared) (H : Hp) (vs : List V) (Q : VK) (E : XK), Room k (A.deeper (envOfC qual (zad st) s.heap.objs.size f cdv)) → sp vs H Q E →
      ∃ t, PSs (cxOf (CX1 P w) P w K mg base N qual (zad st) f cdv A outer s H E) (zaj st) t ∧ t { nx := fun _ H' => Q .non H', rt := Q } (zeo N vs) H) : FnOk P w K mg base (CX1 P w) (k + 1) f fd ps sp := by
  obtain ⟨oc, od, kV, doc, pm, an, cdv, ct, osl, rfl, lk, hcd⟩ := F.ex
  exact zjJ lk hcd S len fun A outer s H vs Q E hr hsp => hbody cdv A outer s H vs Q E hr hsp
section
variable {X : Cx} {k : Nat} {ps : List Str} {sp : Sp} {x : Str} {p pos : Pos} {e : Expr} {es : List Expr} {t : TA}
theorem ziV {E : XK} (C : Cal1 X.prog X.w X.K X.mg X.base x k ps sp) (hx : ze2 (CX1 X.prog X.w) X E) (hr : Room k X.A) (hg : Gl X x) (ha : PA X (e :: es) t) (hdb : (x == ("__debug__" : Str)) = false := by decide)
    (he : starEach (e :: es) X.env = (false, eval e X.env) :: starEach es X.env := by rfl) (hpl : (backTo pos (starEach es X.env)).any (·.1) = false := by rfl) :
    PE X (.Call (.Name x p) (e :: es) [] pos) (zjI sp [] E t) := by
  obtain ⟨f, fd, G, b, m, kp⟩ := C.ex
  exact zgw G hr hg m kp b .nil hx ha hdb he hpl
end
abbrev TH := Addr → Addr → Hp → St → Ends → Prop
structure AtH (X : Cx) (pins : List (Addr × Obj)) (σ : St) (H : Hp) (a C : Addr) (dx : Option Addr) (s : Shared) : Prop where
  I : Inv X pins σ H s
  ex : ∃ T vs, Flies s.heap H 0 a C T dx vs ∧ Aside X pins T
section
variable {X : Cx} {Dc : Addr} {i : Nat} {n d : Str} {np pos : Pos} {b₀ : Stmt} {suite : List Stmt} {rest : List ExceptHandler} {ts : TS} {tr : TH}
end
end L2
set_option Elab.async false
set_option linter.all false
set_option maxRecDepth 100000
set_option maxHeartbeats 4000000
namespace L2
open PySem PySem.Spec PyProof.Rows
inductive TyX (K : PySem.W.Frag) (H : Hp) : V → Value → Prop where
  | old {x : V} {t : Value} (h : TyOf K H x t) : TyX K H x t
  | exc {a C : Addr} (h : IsX K H a C) : TyX K H (.ref a) (.ref C)
section
variable {X : Cx}
theorem zll {pins : List (Addr × Obj)} {σ : St} {H : Hp} {s : Shared} {A : Around} {E : Value → Shared → Prop} {Q : Value → Shared → Prop} {c : Value} {b : Bool} {x : V} {u t : Value} (I : Inv X pins σ H s) (rx : RelV x u) (ty : TyX X.K H x t) (e : PySem.W.kitOne X.K t c = some b) (h : ∀ tk, Q (.bool b) { s with toks := tk }) :
    wpAny (model X.prog X.w) A (call (.builtin "isinstance") [u, c]) Q E s := by
  cases ty with
  | old ty => exact zix I rx ty e h
  | @exc a C z =>
    cases (show u = Value.ref a from rx)
    obtain ⟨dx, vs, h1, h2⟩ := z.at_
    obtain ⟨od, J⟩ := I.inst h1 h2
    obtain ⟨ini, hi⟩ := z.cls.xc
    exact PySem.W.kia_one (PySem.W.kitx_exc hi z.cls.ga z.cls.gn z.cls.hd z.cls.cl z.cls.cg z.cls.ct z.cls.mo) I.kIn J e (fun z => nomatch z) h
theorem zbf {n : String} : zdp X (.builtin "isinstance") (fun xs H Q => ∃ x t b, xs = [x, .ty n] ∧ TyX X.K H x t ∧ PySem.W.kitOne X.K t (.type n) = some b ∧ Q (.bl b) H) := by
  intro pins s σ H xs us Q I r h
  obtain ⟨x, t, b, rfl, ty, e, q⟩ := h
  obtain ⟨u, w', rfl, ru, rw'⟩ := zjH r
  cases (show w' = Value.type n from rw')
  exact zll I ru ty e fun tk => ⟨.bl b, H, I.tok tk, rfl, q⟩
end
structure XD (K : PySem.W.Frag) (C : Addr) (up : List Value) : Prop where
  cd : ∃ cd, PySem.W.clsIn K C = some cd ∧ cd.mro = .ref C :: up
  ty : PySem.W.typeIn K (.ref C) = some (.type "type")
structure XCal (P : Program) (w : World) (K : PySem.W.Frag) (mg : Str → Option Value) (base : Heap) (x : Str) (C : Addr) (f : Str) : Prop where
  ex : ∃ fI fd ps, XMk K C (some fI) ∧ zd4 K C f ∧ FnOk P w K mg base CX0 1 fI fd ps (zev K C f) ∧ zb6 K fd ps [] ∧ mg x = some (.ref C)
structure XCal0 (K : PySem.W.Frag) (mg : Str → Option Value) (x : Str) (C : Addr) : Prop where
  made : XMk K C none
  m : mg x = some (.ref C)
section
variable {X : Cx} {C : Addr} {f x : Str} {p pos : Pos} {e : Expr} {es : List Expr} {t : TA}
theorem zlm (h : XCal X.prog X.w X.K X.mg X.base x C f) (hr : Room 2 X.A) (hg : Gl X x) (ha : PA X (e :: es) t) (hdb : (x == ("__debug__" : Str)) = false := by decide) (he : starEach (e :: es) X.env = (false, eval e X.env) :: starEach es X.env := by rfl) (hpl : (backTo pos (starEach es X.env)).any (·.1) = false := by rfl) :
    PE X (.Call (.Name x p) (e :: es) [] pos) (zkB C f t) := by
  obtain ⟨fI, fd, ps, M, n, F, b, m⟩ := h.ex
  exact zjT M n F hr b hg m ha hdb he hpl
theorem zjW {P : Program} {w : World} {K : PySem.W.Frag} {mg : Str → Option Value} {base : Heap} {qual sf : Str} {st : Stmt} {fI : Addr} {fd : FuncData} {C : Addr} {fn : Str} {p1 p2 p3 p4 : Pos} (F : Fun K "__init__" qual st fI fd) (S : FnScope ["self", sf] ["self", sf] (zad st))
    (hb : zaj st = [.Assign [.Attribute (.Name "self" p1) fn p2] (.Name sf p3) p4])
    (h1 : (zad st).names.lookup ("self" : Str) = some NameKind.local) (h2 : (zad st).names.lookup sf = some NameKind.local) (hd : (sf == ("__debug__" : Str)) = false) (hc : (sf == ("__classdict__" : Str)) = false)
    (hs : ∀ env : Env, swapsWith (.Name sf p3) (some (.Attribute (.Name "self" p1) fn p2)) p4.line env = pure false) :
    FnOk P w K mg base CX0 1 fI fd ["self", sf] (zev K C fn) := by
  refine F.ok S (fun vs H Q E h => ?_) (fun cdv A outer s H vs Q E hr h => ?_)
  · obtain ⟨a, v, ws, rfl, _⟩ := h
    rfl
  obtain ⟨a, v, ws, rfl, c, n, ea, q⟩ := h
  rw [hb]
  refine ⟨_, zaf (zlj (zik (i := 0) rfl (.inl h1) (by decide) (by decide)) (zik (i := 1) rfl (.inl h2) hd hc) (hs _)), ?_⟩
  exact ⟨_, rfl, _, rfl, a, C, ws, rfl, ea, c, n, fun d H3 k1 hd k2 k3 => q d H3 k1 hd k2 k3⟩
end
section
variable {X : Cx}
end
end L2
set_option Elab.async false
set_option linter.all false
set_option maxRecDepth 100000
set_option maxHeartbeats 4000000
namespace L2
open PySem PySem.Spec PyProof.Rows
section
variable {X : Cx}
end
structure Told (K : PySem.W.Frag) (H : Hp) (a C : Addr) (f : Str) (v : V) : Prop where
  ex : ∃ d ws, H a = some (XcO a C (some d) ws) ∧ H d = some (.xd [(f, v)])
theorem zhT {K : PySem.W.Frag} {H H1 : Hp} {C : Addr} {f : Str} {v : V} {E : XK} (s0 : Same H H1) (hE : ∀ a H', Same H H' → Told K H' a C f v → E (.ref C) (some a) H') :
    ∀ a d ws H2, Same H1 H2 → H1 a = none → ws[1]? = some Value.none → H2 a = some (XcO a C (some d) ws) → H2 d = some (.xd [(f, v)]) →
      ∃ a' dx vs, V.ref a = .ref a' ∧ H2 a' = some (XcO a' C dx vs) ∧ vs[1]? = some Value.none ∧ (∀ y, dx = some y → ∃ fs, H2 y = some (.xd fs)) ∧ ∀ vs', E (.ref C) (some a') (upd H2 a' (XcO a' C dx vs')) := by
  intro a d ws H2 s1 n1 u1 e1 f1
  refine ⟨a, some d, ws, rfl, e1, u1, fun y q => by cases q; exact ⟨_, f1⟩, fun vs' => hE a _ (fun b o q => ?_) ⟨d, vs', zai, ?_⟩⟩
  · have na : b ≠ a := zar (s0 b o q) n1
    rw [zah na]
    exact s1 b o (s0 b o q)
  · rw [zah (zhK f1 e1 (by intro z; cases z))]
    exact f1
structure Cl where
  n : Int
  wt : Int
  wb : Int
  st : Int
  sb : Int
  came : Int
structure Cl.Ok (c : Cl) : Prop where
  n0 : 0 ≤ c.n
  w0 : 0 ≤ c.wt
  w1 : c.wt ≤ 1000000
  w2 : 1 ≤ c.wb
  w3 : c.wb ≤ 12
  s0 : 0 ≤ c.st
  s1 : c.st ≤ 1000000
  s2 : 1 ≤ c.sb
  s3 : c.sb ≤ 12
  c0 : 0 ≤ c.came
  c1 : c.came ≤ 1000000000000000
structure IsCl (K : PySem.W.Frag) (H : Hp) (p : Addr) (c : Cl) : Prop where
  ex : ∃ pw ps, H p = some (.tup [.int c.n, .ref pw, .ref ps, .int c.came]) ∧ H pw = some (.tup [.int c.wt, .int c.wb]) ∧ H ps = some (.tup [.int c.st, .int c.sb])
theorem IsCl.same {K : PySem.W.Frag} {H H' : Hp} {p : Addr} {c : Cl} (s : Same H H') (h : IsCl K H p c) : IsCl K H' p c := let ⟨pw, ps, a, b, d⟩ := h.ex; ⟨pw, ps, s _ _ a, s _ _ b, s _ _ d⟩
end L2
set_option Elab.async false
set_option linter.all false
set_option maxRecDepth 100000
set_option maxHeartbeats 4000000
namespace L2
open PySem PySem.Spec PyProof.Rows
def But (p : Addr) (H H' : Hp) : Prop := ∀ b o, b ≠ p → H b = some o → H' b = some o
theorem Same.but {p : Addr} {H0 H H' : Hp} (s : Same H0 H) (n : H0 p = none) (b : But p H H') : Same H0 H' := fun c o h => b c o (zar h n) (s c o h)
theorem But.upd (p : Addr) (H : Hp) (o : HO) : But p H (L2.upd H p o) := fun c u hc h => by rw [zah hc]; exact h
theorem IsCl.but {K : PySem.W.Frag} {H H' : Hp} {p q : Addr} {c : Cl} {xs : List V} (b : But q H H') (hq : H q = some (.lst xs)) (h : IsCl K H p c) : IsCl K H' p c := by
  obtain ⟨pw, ps, e1, e2, e3⟩ := h.ex
  exact ⟨pw, ps, b _ _ (zhK e1 hq (by intro z; cases z)) e1, b _ _ (zhK e2 hq (by intro z; cases z)) e2, b _ _ (zhK e3 hq (by intro z; cases z)) e3⟩
section
variable {X : Cx}
def zma : V → V → V → Hp → (Hp → Prop) → Prop := fun o i v H Q => ∃ p xs k j, o = .ref p ∧ i = .int k ∧ H p = some (.lst xs) ∧ ixN xs.length k = some j ∧ ∀ H2, But p H H2 → H2 p = some (.lst (xs.set j v)) → Q H2
theorem zcC : PSet X zma := by
  intro pins s σ H o i v ov iv u Q I ro ri rv h
  obtain ⟨p, xs, k, j, e1, e2, hp, hj, q⟩ := h
  exact zjO pins s σ H o i v ov iv u Q I ro ri rv ⟨p, xs, k, j, e1, e2, hp, hj, q _ (But.upd p H _) zai⟩
def zjX : V → List V → Hp → VK → Prop := fun x vs H Q => ∃ l xs y, x = .ref l ∧ vs = [y] ∧ H l = some (.lst xs) ∧ xs.length < sizeLine ∧ ∀ H2, But l H H2 → H2 l = some (.lst (xs ++ [y])) → Q .non H2
theorem zdi : MtR X "list.append" zjX := by
  intro pins s σ H x vs v us Q I rx rv h
  obtain ⟨l, xs, y, e1, e2, hp, hz, q⟩ := h
  exact zc4 pins s σ H x vs v us Q I rx rv ⟨l, xs, y, e1, e2, hp, hz, q _ (But.upd l H _) zai⟩
theorem ziW : zdp X (.type "tuple") (fun xs H Q => ∃ p ys, xs = [.ref p] ∧ ((SqL X.K H p ys ∧ ∀ l H2, Same H H2 → H l = none → H2 l = some (.tup ys) → Q (.ref l) H2) ∨ (SqT X.K H p ys ∧ Q (.ref p) H))) := by
  intro pins s σ H xs us Q I r h
  obtain ⟨p, ys, e, h⟩ := h
  refine zfk pins s σ H xs us Q I r ⟨p, ys, e, h.imp (fun ⟨a, b⟩ => ⟨a, fun l n => b l _ (zaU n _) n zai⟩) id⟩
theorem zfX : zdp X (.type "list") (fun xs H Q => ∃ p ys, xs = [.ref p] ∧ (SqL X.K H p ys ∨ SqT X.K H p ys) ∧ ∀ l H2, Same H H2 → H l = none → H2 l = some (.lst ys) → Q (.ref l) H2) := by
  intro pins s σ H xs us Q I r h
  obtain ⟨p, ys, e, h, q⟩ := h
  exact zfO pins s σ H xs us Q I r ⟨p, ys, e, h, fun l n => q l _ (zaU n _) n zai⟩
def zm5 (K : PySem.W.Frag) : V → Option Int → Option Int → Hp → VK → Prop := fun x lo hi H Q => ∃ a xs, x = .ref a ∧ SqL K H a xs ∧ ∀ p H2, Same H H2 → H p = none → H2 p = some (.lst (cutV xs lo hi)) → Q (.ref p) H2
theorem zb2 : SlR X (zm5 X.K) := by
  intro pins s σ H v u vl vu lo hi sl Q I rx hs pl pu h
  obtain ⟨a, xs, e, hx, q⟩ := h
  exact zle pins s σ H v u vl vu lo hi sl Q I rx hs pl pu ⟨a, xs, e, hx, fun p n => q p _ (zaU n _) n zai⟩
end
structure IsW (H : Hp) (p : Addr) (t b : Int) : Prop where
  at_ : H p = some (.tup [.int t, .int b])
  t0 : 0 ≤ t
  t1 : t ≤ 1000000
  b0 : 1 ≤ b
  b1 : b ≤ 12
theorem IsW.same {H H' : Hp} {p : Addr} {t b : Int} (s : Same H H') (h : IsW H p t b) : IsW H' p t b := ⟨s _ _ h.at_, h.t0, h.t1, h.b0, h.b1⟩
theorem at_2 (a b : V) (n : Int) : ∃ v, atI [a, b] (n % 2) = some v ∧ (v = a ∨ v = b) := by
  have h : n % 2 = 0 ∨ n % 2 = 1 := by omega
  rcases h with h | h <;> rw [h]
  · exact ⟨a, rfl, .inl rfl⟩
  · exact ⟨b, rfl, .inr rfl⟩
theorem zjY {X : Cx} : ze2 (CX1 X.prog X.w) X E0 := by
  intro pins σ H s e s' I h
  obtain ⟨a, T, C, dx, vs, H2, rfl, os, gb, un, hok, hz, F, hE⟩ := h
  exact (hE #[]).elim
end L2
set_option Elab.async false
set_option linter.all false
namespace L2
open PySem
def wtop (c : Cl) (t : Int) : Int := c.wt * c.sb + (t - c.came) * c.st * c.wb
def wbot (c : Cl) : Int := c.wb * c.sb
theorem zew {c : Cl} (h : c.Ok) : 0 < wbot c := Int.mul_pos (by have := h.w2; omega) (by have := h.s2; omega)
def gap (c d : Cl) (t : Int) : Int := wtop c t * wbot d - wtop d t * wbot c
theorem zhg (c d : Cl) (t : Int) : gap d c t = - gap c d t := by unfold gap; omega
def tie (c d : Cl) : Bool := decide (c.came < d.came ∨ (c.came = d.came ∧ c.n < d.n))
def ahd (c d : Cl) (t : Int) : Bool := if gap c d t = 0 then tie c d else decide (0 < gap c d t)
theorem zjZ {c d : Cl} (h : c.n ≠ d.n) : tie d c = !tie c d := by
  unfold tie
  rw [Bool.eq_iff_iff, Bool.not_eq_true', decide_eq_true_iff, decide_eq_false_iff_not]
  omega
theorem zhh {c d : Cl} (h : c.n ≠ d.n) (t : Int) : ahd d c t = !ahd c d t := by
  unfold ahd
  rw [zhg c d t]
  by_cases z : gap c d t = 0
  · rw [if_pos (by omega), if_pos z, zjZ h]
  · rw [if_neg (by omega), if_neg z, Bool.eq_iff_iff, Bool.not_eq_true', decide_eq_true_iff, decide_eq_false_iff_not]
    omega
inductive Pass (b l : Cl) (t : Int) : V → Prop where
  | no (h : ∀ u, t ≤ u → ahd b l u = false) : Pass b l t .non
  | at_ (u : Int) (h1 : t < u) (h2 : ahd b l u = true) (h3 : ∀ v, t ≤ v → v < u → ahd b l v = false) : Pass b l t (.int u)
structure PassOf (c d : Cl) (t : Int) (v : V) : Prop where
  one : ahd c d t = true → Pass d c t v
  two : ahd c d t = false → Pass c d t v
structure IsLc (H : Hp) (l : Addr) (n : Int) (c : Int) : Prop where
  ex : ∃ w s t b u d, H l = some (.lst [.int n, .ref w, .ref s, .int c]) ∧ IsW H w t b ∧ IsW H s u d
  c0 : 0 ≤ c
  c1 : c ≤ 1000000000000000
end L2
set_option Elab.async false
set_option linter.all false
set_option maxRecDepth 100000
set_option maxHeartbeats 4000000
namespace L2
open PySem PySem.Spec PyProof.Rows
section
variable {X : Cx}
theorem zln (its : List Value) (y : Value) (k : Nat) (hk : k ≤ its.length) : (its.toArray.extract 0 k).push y ++ its.toArray.extract k = (its.take k ++ y :: its.drop k).toArray := by
  apply Array.ext'
  simp
  exact List.take_of_length_le (by rw [List.length_drop]; omega)
def zm6 : V → List V → Hp → VK → Prop := fun x vs H Q => ∃ l xs i y, x = .ref l ∧ vs = [.int i, y] ∧ H l = some (.lst xs) ∧ 0 ≤ i ∧ i ≤ xs.length ∧ xs.length < sizeLine ∧ ∀ H2, But l H H2 → H2 l = some (.lst (xs.take i.toNat ++ y :: xs.drop i.toNat)) → Q .non H2
theorem ziX : MtM X "list.insert" zm6 := by
  intro pins s σ H x vs v us Q I rx rv h
  obtain ⟨l, xs, i, y, rfl, rfl, hH, i0, i1, hz, q⟩ := h
  cases rx
  obtain ⟨u, u2, rfl, ru, ru2⟩ := zjH rv
  obtain ⟨t, rfl⟩ := (show ∃ t, u = Value.int i t from ru)
  obtain ⟨z, its, n, r, hl, e⟩ := I.lstM hH
  have sz : sizeLine < 2 ^ 63 := by decide
  refine call_meets F.slot_list_insert ⟨_, e, rfl⟩ F.entry_list_insert (F.args_list_insert_3 _ _ _)
    (AutoSeq1.list_insert_list_int_val_1 l its.toArray n i t u2 (by rw [fitsIndex_both (k := i) (by omega) (by omega)]; decide) (by rw [List.size_toArray]; omega)) ⟨e, ?_⟩
  refine ⟨.non, _, I.lset (its' := its.take i.toNat ++ u2 :: its.drop i.toNat) (ys := xs.take i.toNat ++ y :: xs.drop i.toNat) hH e ?_ ?_ ?_, rfl, q _ (But.upd l H _) zai⟩
  · show (its.toArray.extract 0 (if i < 0 then (i + (its.toArray.size : Int)).toNat else min i.toNat its.toArray.size)).push u2 ++ its.toArray.extract (if i < 0 then (i + (its.toArray.size : Int)).toNat else min i.toNat its.toArray.size) = _
    rw [if_neg (by omega), List.size_toArray, Nat.min_eq_left (by omega)]
    exact zln its u2 _ (by omega)
  · exact (r.take _).append (.cons ru2 (r.drop _))
  · rw [List.length_append, List.length_cons, List.length_take, List.length_drop]
    omega
def zlo : V → List V → Hp → VK → Prop := fun x vs H Q => ∃ l xs i k y, x = .ref l ∧ vs = [.int i] ∧ H l = some (.lst xs) ∧ ixN xs.length i = some k ∧ xs[k]? = some y ∧ ∀ H2, But l H H2 → H2 l = some (.lst (xs.eraseIdx k)) → Q y H2
theorem ziY : MtM X "list.pop" zlo := by
  intro pins s σ H x vs v us Q I rx rv h
  obtain ⟨l, xs, i, k, y, e1, e2, hp, hk, hy, q⟩ := h
  obtain ⟨k1, k2, k3, k4⟩ := zgy hk
  have z := (I.lstM hp).1
  have sz : sizeLine < 2 ^ 63 := by decide
  exact zjP pins s σ H x vs v us Q I rx rv ⟨l, xs, i, k, y, e1, e2, hp, by omega, by omega, k1, hy, q _ (But.upd l H _) zai⟩
end
end L2
set_option Elab.async false
set_option linter.all false
set_option maxRecDepth 100000
set_option maxHeartbeats 4000000
namespace L2
open PySem PySem.Spec PyProof.Rows
theorem Inv.turnedL {X : Cx} {pins : List (Addr × Obj)} {σ : St} {H : Hp} {s : Shared} {h' : Heap} {t' : Nat} {fp : List Addr} (I : Inv X pins σ H s) (k : ∀ b o, b ∉ fp → s.heap.get? b = some o → h'.get? b = some o) (hf : ∀ b ∈ fp, FpOk X pins H b) :
    Inv X pins σ H { s with heap := h', toks := t' } := by
  have nit : ∀ b u, H b = some u → b ∉ fp := fun b u e z => by rw [(hf b z).1] at e; cases e
  refine I.step (g' := s.gens) (d' := s.drawn) (ch := fp) (fun b hb => ?_) (fun b o _ _ hc e _ => k b o hc e) (fun b o _ _ hc e _ => ⟨o.slots, k b o hc e⟩) (fun _ _ _ _ n => n)
    (fun b o hc e => ⟨o, k b o hc e⟩) (fun _ _ e => e) (fun _ _ _ e => e) (fun _ _ _ e => e) (fun m hm => ?_) (fun b u e => ?_) I.bare
  · obtain ⟨f0, f1, f2, f3, f4, f5⟩ := hf b hb
    exact ⟨f3, f1, f4, f5⟩
  · obtain ⟨o, es, ep, ho, r⟩ := hm
    exact ⟨o, es, ep, k _ o (fun z => (hf _ z).2.1 rfl) ho, r⟩
  · refine (I.hok b u e).stay (fun c v hc q => k c v ?_ q) (fun _ q => q) (fun _ _ q => q) fun _ _ _ q => q
    rcases hc with z | z
    · rw [z]; exact nit b u e
    · exact nit c _ z
def Ite (K : PySem.W.Frag) (a : Addr) : It :=
  ⟨fun i H => ∃ xs x, SqL K H a xs ∧ xs[i]? = some x, fun i H x H' => ∃ p y, x = .ref p ∧ Same H H' ∧ H p = none ∧ H' p = some (.tup [.int i, y]) ∧ ∀ xs, SqL K H a xs → xs[i]? = some y, fun i H => ∃ xs, SqL K H a xs ∧ xs.length ≤ i⟩
theorem ziZ {P : Program} {w : World} {K : PySem.W.Frag} {elts : List Expr} {x1} {pos : Pos} (a e it : Addr) (hne : e ≠ it) :
    Turn P w K (.Tuple elts x1 pos) (Ite K a) [e, it] e (fun i h => (∃ old, IsEnum h e it i old) ∧ h.IsListIter it a i) where
  mem := by simp
  obj := fun i h st b hb => by
    obtain ⟨⟨old, he⟩, o, ho, c, d⟩ := st
    rcases List.mem_cons.mp hb with rfl | hb
    · exact ⟨_, he, fun v z => by
        have z' : Data.fields _ = Data.cell v := z
        cases z'⟩
    · have e : b = it := by simpa using hb
      subst e
      exact ⟨o, ho, fun v z => by rw [d] at z; cases z⟩
  keep := fun i h h' st k => ⟨let ⟨old, he⟩ := st.1; ⟨old, k e (by simp) _ he⟩, st.2.at fun o q => k it (by simp) o q⟩
  item := by
    intro X hP hw hK hc i pins s σ H E I hf st hg
    subst hP hw hK
    obtain ⟨xs, x, hq, hx⟩ := hg
    obtain ⟨its, rv, p, hz⟩ := I.list hq
    obtain ⟨u, hu, ru⟩ := rv.get hx
    obtain ⟨⟨old, he⟩, hit⟩ := st
    have el : e < s.heap.objs.size := Heap.lt_size he
    have il : it < s.heap.objs.size := by obtain ⟨o, y, _⟩ := id hit; exact Heap.lt_size y
    refine wpAny_pyNext_enum_item he hit p.isList (x := u) (by simpa using hu) hne fun h' ho hit' hT hsz hk => ?_
    refine ⟨_, rfl, wpAny_letOwnedTupleGo_enum ho fun h'' he'' hs'' => ?_⟩
    have fr : H s.heap.objs.size = none := I.hok.fresh (Nat.le_refl _)
    have I1 : Inv X pins σ (upd H s.heap.objs.size (.tup [.int i, x])) { s with heap := s.heap.push { cls := .type "tuple", data := .seq #[.int i s.toks, u] }, toks := s.toks } :=
      I.laid (fun b o q => Heap.get?_push_of_some _ q) (Nat.le_refl _) ⟨by show 2 ≤ sizeLine; decide, [.int i s.toks, u], .cons ⟨_, rfl⟩ (.cons ru .nil), _, Heap.get?_push_size _ rfl, rfl, _, rfl⟩
    have hf1 : ∀ b ∈ [e, it], FpOk X pins (upd H s.heap.objs.size (.tup [.int i, x])) b := fun b hb => by
      have nb : b ≠ s.heap.objs.size := by
        simp only [List.mem_cons, List.not_mem_nil, or_false] at hb
        rcases hb with rfl | rfl
        · exact Nat.ne_of_lt el
        · exact Nat.ne_of_lt il
      exact ⟨by rw [zah nb]; exact (hf b hb).1, (hf b hb).2⟩
    have I2 : Inv X pins σ (upd H s.heap.objs.size (.tup [.int i, x])) { s with heap := h'', toks := s.toks + 1 } := by
      refine Inv.turnedL (s := { s with heap := s.heap.push { cls := .type "tuple", data := .seq #[.int i s.toks, u] }, toks := s.toks }) (fp := [e, it]) I1 (fun b o hb q => ?_) hf1
      have q : (s.heap.push { cls := .type "tuple", data := .seq #[.int i s.toks, u] }).get? b = some o := q
      simp only [List.mem_cons, List.not_mem_nil, or_false, not_or] at hb
      refine hs''.extBut b o hb.1 ?_
      rcases Heap.get?_push_cases q with ⟨e1, e2⟩ | q'
      · subst e1 e2
        exact hT
      · exact hk b o hb.1 hb.2 q'
    refine ⟨.ref s.heap.objs.size, _, I2, rfl, ⟨_, x, rfl, zaU fr _, fr, zai, fun ys hy => by rw [I.list_inj hy hq]; exact hx⟩, ⟨⟨_, by simpa using he''⟩, hit'.extBut hs''.extBut (Ne.symm hne)⟩, fun b hb => (hf1 b hb).1⟩
  done := by
    intro X hP hw hK hc i pins s σ H E I hf st hg
    subst hP hw hK
    obtain ⟨xs, hq, hx⟩ := hg
    obtain ⟨its, rv, p, hz⟩ := I.list hq
    obtain ⟨f0, f1, f2, f3, f4, f5⟩ := hf it (by simp)
    obtain ⟨⟨old, he⟩, hit⟩ := st
    have hl := rv.length
    exact wpAny_pyNext_enum_end (I.ok.hd hc) he hit p.isList (by simp; omega) fun h' eb => ⟨rfl, I.turned (t' := s.toks) (fun b o hb e => eb b o hb e) f0 f1 f3 f4 f5⟩
  self := fun _ _ _ _ _ st h => let ⟨_, he⟩ := st.1; wpAny_pyIter_enum he h
theorem zd7 : bootBuiltins "enumerate" = some (.type "enumerate") := by decide +kernel
def zm7 (K : PySem.W.Frag) (ta : TA) : TI := fun σ H R => ta σ H fun vs H1 => ∃ a, vs = [.ref a] ∧ (∃ xs, SqL K H1 a xs) ∧ R (Ite K a) H1
theorem zlp {X : Cx} {elts : List Expr} {x1} {pos' : Pos} {a : Expr} {ta : TA} {p pos : Pos} (hg : Gl X "enumerate") (hm : X.mg "enumerate" = none) (ha : PA X [a] ta) (hs : starEach [a] X.env = [(false, eval a X.env)] := by rfl) :
    PI X (.Tuple elts x1 pos') (.Call (.Name "enumerate" p) [a] [] pos) (zm7 X.K ta) := by
  with_unfolding_all
    intro pins s σ H R I h
    refine Call_ (zd2 I hg hm zd7 (PyProof.Rows.callWith_type1 (thn (ha pos pins s σ H _ I h) fun us s1 ⟨vs, H1, I1, r1, q1⟩ => ?_) hs rfl))
    obtain ⟨l, e, ⟨xs, hq⟩, q⟩ := q1
    subst e
    cases r1 with
    | cons r rr =>
      cases rr
      cases r
      obtain ⟨its, rv, pl, hz⟩ := I1.list hq
      refine call_enumerate_list pl.isList fun h' he hit hsz hk => ?_
      refine wpAny_pyIter_enum he ?_
      have I2 : Inv X pins σ H1 { s1 with heap := h', toks := s1.toks } := I1.kept hk
      refine ⟨s1.heap.objs.size + 1, [s1.heap.objs.size + 1, s1.heap.objs.size], _, _, H1, rfl, I2, ziZ l _ _ (Nat.succ_ne_self _), ⟨⟨_, he⟩, hit⟩, fun b hb => ?_, q⟩
      simp only [List.mem_cons, List.not_mem_nil, or_false] at hb
      rcases hb with rfl | rfl
      · exact I1.fpOk (Nat.le_succ _) (I1.hok.fresh (Nat.le_succ _))
      · exact I1.fpOk (Nat.le_refl _) (I1.hok.fresh (Nat.le_refl _))
theorem zj0 {K : PySem.W.Frag} {a : Addr} {xs : List V} {g : TG} {tb : TS} {D : Ends} {σ : St} {H : Hp} (Pv : Nat → St → Hp → Prop) (h0 : Pv 0 σ H) (hl : ∀ i σ H, i ≤ xs.length → Pv i σ H → SqL K H a xs)
    (hs : ∀ i x σ H p H1, xs[i]? = some x → Pv i σ H → Same H H1 → H p = none → H1 p = some (.tup [.int i, x]) → g (.ref p) σ H1 fun σ2 H2 => tb { D with nx := Pv (i + 1), ct := Pv (i + 1), bk := D.nx } σ2 H2) (hd : ∀ σ H, Pv xs.length σ H → D.nx σ H) :
    ∃ W : Nat → Nat → St → Hp → Prop, (∃ m, W 0 m σ H) ∧ ∀ i m σ H, W i m σ H →
      ((Ite K a).stop i H ∧ D.nx σ H) ∨ ((Ite K a).go i H ∧ ∃ N : St → Hp → Prop, (∀ σ' H', N σ' H' → ∃ m', m' < m ∧ W (i + 1) m' σ' H') ∧ ∀ x H', (Ite K a).yld i H x H' → g x σ H' fun σ2 H2 => tb { D with nx := N, ct := N, bk := D.nx } σ2 H2) := by
  refine ⟨fun i m σ H => m = xs.length - i ∧ i ≤ xs.length ∧ Pv i σ H, ⟨xs.length, by simp, Nat.zero_le _, h0⟩, ?_⟩
  rintro i m σ H ⟨rfl, hi, p⟩
  have q := hl i σ H hi p
  by_cases hlt : i < xs.length
  · refine .inr ⟨⟨xs, xs[i], q, by simp [hlt]⟩, Pv (i + 1), fun σ' H' p' => ⟨xs.length - (i + 1), by omega, rfl, hlt, p'⟩, fun x H' y => ?_⟩
    obtain ⟨pp, y', rfl, sm, n0, h1, y⟩ := y
    exact hs i y' σ H pp H' (y xs q) p sm n0 h1
  · have e : i = xs.length := by omega
    subst e
    exact .inl ⟨⟨xs, q, Nat.le_refl _⟩, hd σ H p⟩
end L2
set_option Elab.async false
set_option linter.all false
set_option maxRecDepth 100000
set_option maxHeartbeats 4000000
namespace L2
open PySem PySem.Spec PyProof.Rows
section
variable {X : Cx}
end
end L2
set_option Elab.async false
set_option linter.all false
set_option maxRecDepth 100000
set_option maxHeartbeats 4000000
namespace L2
open PySem PySem.Spec PyProof.Rows
def refV : V → Bool
  | .ref _ => true
  | _ => false
def Deq (K : PySem.W.Frag) (H : Hp) : Nat → V → V → Prop
  | 0, x, y => x = y ∧ (zaM x = true ∨ refV x = true)
  | n + 1, x, y => (x = y ∧ (zaM x = true ∨ refV x = true)) ∨ ∃ a b xs ys, x = .ref a ∧ y = .ref b ∧ ((SqT K H a xs ∧ SqT K H b ys) ∨ (SqL K H a xs ∧ SqL K H b ys)) ∧ xs.length = ys.length ∧ ∀ (j : Nat) u v, xs[j]? = some u → ys[j]? = some v → Deq K H n u v
theorem Deq.flat {K : PySem.W.Frag} {H : Hp} {x : V} (n : Nat) (h : zaM x = true) : Deq K H n x x := by
  cases n with
  | zero => exact ⟨rfl, .inl h⟩
  | succ n => exact .inl ⟨rfl, .inl h⟩
theorem Deq.tup {K : PySem.W.Frag} {H : Hp} {n : Nat} {a b : Addr} {xs ys : List V} (ha : SqT K H a xs) (hb : SqT K H b ys) (hl : xs.length = ys.length) (h : ∀ (j : Nat) u v, xs[j]? = some u → ys[j]? = some v → Deq K H n u v) : Deq K H (n + 1) (.ref a) (.ref b) :=
  .inr ⟨a, b, xs, ys, rfl, rfl, .inl ⟨ha, hb⟩, hl, h⟩
theorem Deq.lst {K : PySem.W.Frag} {H : Hp} {n : Nat} {a b : Addr} {xs ys : List V} (ha : SqL K H a xs) (hb : SqL K H b ys) (hl : xs.length = ys.length) (h : ∀ (j : Nat) u v, xs[j]? = some u → ys[j]? = some v → Deq K H n u v) : Deq K H (n + 1) (.ref a) (.ref b) :=
  .inr ⟨a, b, xs, ys, rfl, rfl, .inr ⟨ha, hb⟩, hl, h⟩
theorem zj1 {x : V} (h : zaM x = true) : eqV x x = true := by
  cases x <;> first | (cases h; done) | simp [eqV]
theorem zi0 {A : Around} {s : Shared} {x : V} {u v : Value} (rx : RelV x u) (ry : RelV x v) (h : zaM x = true ∨ refV x = true) : SeqAt.EqAt A s u v true := by
  rcases h with h | h
  · have := ziH (A := A) (s := s) rx ry h h
    rw [zj1 h] at this
    exact this
  · cases x with
    | ref a =>
      cases (show u = Value.ref a from rx)
      cases (show v = Value.ref a from ry)
      exact SeqAt.EqAt.same _
    | _ => cases h
theorem zei (n : Nat) : (List.range n).all (fun _ => true) = true := by
  rw [List.all_eq_true]
  intro _ _
  rfl
section
variable {X : Cx} {pins : List (Addr × Obj)} {σ : St} {H : Hp} {s : Shared}
theorem zhi {A : Around} {xs ys : List V} {its its2 : List Value} (r : Vals xs its) (r2 : Vals ys its2) (h : ∀ (j : Nat) x y u v, xs[j]? = some x → ys[j]? = some y → RelV x u → RelV y v → SeqAt.EqAt A s u v true)
    (j : Nat) (h1 : j < its.toArray.size) (h2 : j < its2.toArray.size) : SeqAt.EqAt A s its.toArray[j] its2.toArray[j] true := by
  have l1 : j < xs.length := by rw [r.length]; simpa using h1
  have l2 : j < ys.length := by rw [r2.length]; simpa using h2
  obtain ⟨u, eu, ru⟩ := r.get (List.getElem?_eq_getElem l1)
  obtain ⟨v, ev, rv⟩ := r2.get (List.getElem?_eq_getElem l2)
  have e1 : its.toArray[j] = u := by
    have := (List.getElem?_eq_some_iff.mp eu).2
    simpa using this
  have e2 : its2.toArray[j] = v := by
    have := (List.getElem?_eq_some_iff.mp ev).2
    simpa using this
  rw [e1, e2]
  exact h j _ _ u v (List.getElem?_eq_getElem l1) (List.getElem?_eq_getElem l2) ru rv
theorem Deq.at (I : Inv X pins σ H s) : ∀ (n : Nat) {A : Around} {x y : V} {u v : Value}, Deq X.K H n x y → RelV x u → RelV y v → A.units + n < cLine → SeqAt.EqAt A s u v true := by
  intro n
  induction n with
  | zero =>
    intro A x y u v h rx ry hu
    obtain ⟨rfl, h⟩ := h
    exact zi0 rx ry h
  | succ n ih =>
    intro A x y u v h rx ry hu
    rcases h with ⟨rfl, h⟩ | ⟨a, b, xs, ys, rfl, rfl, hs, hl, h⟩
    · exact zi0 rx ry h
    cases (show u = Value.ref a from rx)
    cases (show v = Value.ref b from ry)
    by_cases ab : a = b
    · subst ab
      exact SeqAt.EqAt.same _
    refine SeqAt.EqAt.of_refs ab ?_
    have hu1 : A.in1.units + n < cLine := by rw [Around.in1_units]; omega
    rcases hs with ⟨ha, hb⟩ | ⟨ha, hb⟩
    · obtain ⟨its, r, pl, hz⟩ := I.tuple ha
      obtain ⟨its2, r2, pl2, hz2⟩ := I.tuple hb
      have e1 : its.toArray.size = xs.length := by simp [r.length]
      have e2 : its2.toArray.size = ys.length := by simp [r2.length]
      have z := SeqAt.RcAt.tuples (s := s) (e := fun _ => true) pl pl2 (show A.units < cLine by omega) (zhi r r2 fun j x y u v hx hy ru rv => ih (h j x y hx hy) ru rv hu1)
      rw [zei, e1, e2, hl, Bool.true_and, beq_self_eq_true] at z
      exact z
    · obtain ⟨its, r, pl, hz⟩ := I.list ha
      obtain ⟨its2, r2, pl2, hz2⟩ := I.list hb
      have e1 : its.toArray.size = xs.length := by simp [r.length]
      have e2 : its2.toArray.size = ys.length := by simp [r2.length]
      have z := SeqAt.RcAt.lists (s := s) (e := fun _ => true) pl.isList pl2.isList (by omega) (show A.units < cLine by omega) (zhi r r2 fun j x y u v hx hy ru rv => ih (h j x y hx hy) ru rv hu1)
      rw [zei] at z
      exact z
end
section
variable {X : Cx}
def zm8 (K : PySem.W.Frag) (n : Nat) (x y : V) (H : Hp) : Prop := ∃ a b xs ys, x = .ref a ∧ y = .ref b ∧ ((SqT K H a xs ∧ SqT K H b ys) ∨ (SqL K H a xs ∧ SqL K H b ys)) ∧ xs.length = ys.length ∧ ∀ (j : Nat) u v, xs[j]? = some u → ys[j]? = some v → Deq K H n u v
theorem zmb (n : Nat) (hu : X.A.units + (n + 1) < cLine) : OpR X (compareOp .NotEq) (fun x y H Q => zm8 X.K n x y H ∧ Q (.bl false) H) := by
  intro pins s σ H x y v u Q I rx ry h
  obtain ⟨⟨a, b, xs, ys, rfl, rfl, hs, hl, h⟩, q⟩ := h
  cases rx
  cases ry
  have hu1 : X.A.in1.units + n < cLine := by rw [Around.in1_units]; omega
  rcases hs with ⟨ha, hb⟩ | ⟨ha, hb⟩
  · obtain ⟨its, r, pl, hz⟩ := I.tuple ha
    obtain ⟨its2, r2, pl2, hz2⟩ := I.tuple hb
    have e1 : its.toArray.size = xs.length := by simp [r.length]
    have e2 : its2.toArray.size = ys.length := by simp [r2.length]
    refine SeqAt.RcNeAt.tuples (s := s) (e := fun _ => true) pl pl2 (show X.A.units < cLine by omega) (zhi r r2 fun j x y u v hx hy ru rv => Deq.at I n (h j x y hx hy) ru rv hu1) X.prog X.w X.xe _ ⟨.bl _, H, I, rfl, ?_⟩
    rw [zei, e1, e2, hl, Bool.true_and, beq_self_eq_true]
    exact q
  · obtain ⟨its, r, pl, hz⟩ := I.list ha
    obtain ⟨its2, r2, pl2, hz2⟩ := I.list hb
    have e1 : its.toArray.size = xs.length := by simp [r.length]
    have e2 : its2.toArray.size = ys.length := by simp [r2.length]
    refine SeqAt.RcNeAt.lists (s := s) (e := fun _ => true) pl.isList pl2.isList (by omega) (show X.A.units < cLine by omega) (zhi r r2 fun j x y u v hx hy ru rv => Deq.at I n (h j x y hx hy) ru rv hu1) X.prog X.w X.xe _ ⟨.bl _, H, I, rfl, ?_⟩
    rw [zei]
    exact q
end
theorem Room.units9 {k : Nat} {A : Around} (r : Room k A) : A.units + (9 + 1) < cLine := by have := r.un; omega
end L2
set_option Elab.async false
set_option linter.all false
namespace L2
open PySem
theorem zi1 (c d e : Cl) (t : Int) : gap c e t * wbot d = gap c d t * wbot e + gap d e t * wbot c := by
  unfold gap
  rw [Int.sub_mul, Int.sub_mul, Int.sub_mul]
  rw [show wtop c t * wbot e * wbot d = wtop c t * wbot d * wbot e by ac_rfl, show wtop e t * wbot c * wbot d = wtop e t * wbot d * wbot c by ac_rfl, show wtop d t * wbot e * wbot c = wtop d t * wbot c * wbot e by ac_rfl]
  omega
theorem zi2 {c d : Cl} {t : Int} : ahd c d t = true ↔ 0 < gap c d t ∨ (gap c d t = 0 ∧ tie c d = true) := by
  unfold ahd
  by_cases z : gap c d t = 0
  · rw [if_pos z]
    constructor
    · intro h
      exact .inr ⟨z, h⟩
    · rintro (h | h)
      · omega
      · exact h.2
  · rw [if_neg z, decide_eq_true_iff]
    constructor
    · exact .inl
    · rintro (h | h)
      · exact h
      · exact absurd h.1 z
theorem zi3 {c d e : Cl} (h1 : tie c d = true) (h2 : tie d e = true) : tie c e = true := by
  unfold tie at *
  rw [decide_eq_true_iff] at *
  omega
theorem zfY {c d e : Cl} {t : Int} (oc : c.Ok) (od : d.Ok) (oe : e.Ok) (h1 : ahd c d t = true) (h2 : ahd d e t = true) : ahd c e t = true := by
  rw [zi2] at *
  have k := zi1 c d e t
  have b1 := zew oc
  have b2 := zew od
  have b3 := zew oe
  have g1 : 0 ≤ gap c d t := by omega
  have g2 : 0 ≤ gap d e t := by omega
  have m1 := Int.mul_nonneg g1 (show 0 ≤ wbot e by omega)
  have m2 := Int.mul_nonneg g2 (show 0 ≤ wbot c by omega)
  rcases h1 with h1 | ⟨z1, h1⟩
  · have := Int.mul_pos h1 b3
    refine .inl (Int.not_le.mp fun le => ?_)
    have := Int.mul_nonpos_of_nonpos_of_nonneg le (show 0 ≤ wbot d by omega)
    omega
  · rcases h2 with h2 | ⟨z2, h2⟩
    · have := Int.mul_pos h2 b1
      refine .inl (Int.not_le.mp fun le => ?_)
      have := Int.mul_nonpos_of_nonpos_of_nonneg le (show 0 ≤ wbot d by omega)
      omega
    · refine .inr ⟨?_, zi3 h1 h2⟩
      rw [z1, z2, Int.zero_mul, Int.zero_mul, Int.add_zero] at k
      rcases Int.mul_eq_zero.mp k with z | z
      · exact z
      · omega
def ins (t : Int) (c : Cl) : List Cl → List Cl
  | [] => [c]
  | d :: ds => if ahd d c t = true then d :: ins t c ds else c :: d :: ds
def ord (cs : List Cl) (t : Int) : List Cl := cs.foldl (fun acc c => ins t c acc) []
theorem zej (t : Int) (c : Cl) : ∀ l, (ins t c l).Perm (c :: l)
  | [] => .refl _
  | d :: ds => by
    unfold ins
    split
    · exact ((zej t c ds).cons d).trans (.swap c d ds)
    · exact .refl _
theorem zex (t : Int) : ∀ (cs acc : List Cl), (cs.foldl (fun acc c => ins t c acc) acc).Perm (cs ++ acc)
  | [], acc => .refl _
  | c :: cs, acc => by
    rw [List.foldl_cons]
    refine (zex t cs (ins t c acc)).trans ?_
    refine ((zej t c acc).append_left cs).trans ?_
    exact List.perm_middle
theorem zdG (cs : List Cl) (t : Int) : (ord cs t).Perm cs := by
  have := zex t cs []
  rw [List.append_nil] at this
  exact this
structure Good (cs : List Cl) : Prop where
  ok : ∀ c, c ∈ cs → c.Ok
  nd : (cs.map (·.n)).Nodup
abbrev Srt (t : Int) (l : List Cl) : Prop := l.Pairwise fun c d => ahd c d t = true
theorem zi4 {t : Int} {c : Cl} (oc : c.Ok) : ∀ {l : List Cl}, (∀ d, d ∈ l → d.Ok ∧ d.n ≠ c.n) → Srt t l → Srt t (ins t c l)
  | [], _, _ => List.pairwise_singleton _ _
  | d :: ds, ho, hs => by
    obtain ⟨h1, h2⟩ := List.pairwise_cons.mp hs
    obtain ⟨od, nd⟩ := ho d (List.mem_cons_self ..)
    have ho' : ∀ e, e ∈ ds → e.Ok ∧ e.n ≠ c.n := fun e he => ho e (List.mem_cons_of_mem _ he)
    unfold ins
    split
    · rename_i hd
      refine List.pairwise_cons.mpr ⟨fun e he => ?_, zi4 oc ho' h2⟩
      rcases List.mem_cons.mp ((zej t c ds).mem_iff.mp he) with rfl | he
      · exact hd
      · exact h1 e he
    · rename_i hd
      have cd : ahd c d t = true := by
        rw [zhh nd]
        simpa using hd
      refine List.pairwise_cons.mpr ⟨fun e he => ?_, hs⟩
      rcases List.mem_cons.mp he with rfl | he
      · exact cd
      · exact zfY oc od (ho' e he).1 cd (h1 e he)
theorem ze7 (t : Int) : ∀ (cs acc : List Cl), Good (cs ++ acc) → Srt t acc → Srt t (cs.foldl (fun acc c => ins t c acc) acc)
  | [], acc, _, h => h
  | c :: cs, acc, g, h => by
    rw [List.foldl_cons]
    have g' : Good (cs ++ ins t c acc) := by
      have pm : (cs ++ ins t c acc).Perm (c :: cs ++ acc) := ((zej t c acc).append_left cs).trans List.perm_middle
      exact ⟨fun e he => g.ok e (pm.mem_iff.mp he), (pm.map (·.n)).nodup_iff.mpr g.nd⟩
    refine ze7 t cs _ g' (zi4 (g.ok c (by simp)) (fun d hd => ⟨g.ok d (by simp [hd]), fun e => ?_⟩) h)
    have nd := g.nd
    rw [List.cons_append, List.map_cons, List.nodup_cons] at nd
    exact nd.1 (by rw [← e]; exact List.mem_map.mpr ⟨d, by simp [hd], rfl⟩)
theorem zlq {cs : List Cl} (g : Good cs) (t : Int) : Srt t (ord cs t) := ze7 t cs [] (by rw [List.append_nil]; exact g) .nil
theorem zfZ {c d : Cl} {t : Int} (h1 : ahd c d t = true) (h2 : ahd d c t = true) : False := by
  rw [zi2] at *
  rw [zhg c d t] at h2
  have z : gap c d t = 0 := by omega
  have t1 : tie c d = true := by
    rcases h1 with h | h
    · omega
    · exact h.2
  have t2 : tie d c = true := by
    rcases h2 with h | h
    · omega
    · exact h.2
  unfold tie at t1 t2
  rw [decide_eq_true_iff] at t1 t2
  omega
theorem zhj {t : Int} : ∀ {l m : List Cl}, l.Perm m → Srt t l → Srt t m → l = m
  | [], m, p, _, _ => (List.Perm.nil_eq p)
  | c :: l, [], p, _, _ => absurd (List.Perm.length_eq p) (by simp)
  | c :: l, d :: m, p, hl, hm => by
    obtain ⟨l1, l2⟩ := List.pairwise_cons.mp hl
    obtain ⟨m1, m2⟩ := List.pairwise_cons.mp hm
    have e : c = d := by
      rcases List.mem_cons.mp (p.mem_iff.mp (List.mem_cons_self (a := c) (l := l))) with e | hc
      · exact e
      · rcases List.mem_cons.mp (p.mem_iff.mpr (List.mem_cons_self (a := d) (l := m))) with e | hd
        · exact e.symm
        · exact (zfZ (l1 d hd) (m1 c hc)).elim
    subst e
    rw [zhj ((List.perm_cons c).mp p) l2 m2]
theorem zhk {cs l : List Cl} {t : Int} (g : Good cs) (p : l.Perm cs) (h : Srt t l) : l = ord cs t := zhj (p.trans (zdG cs t).symm) h (zlq g t)
end L2
set_option Elab.async false
set_option linter.all false
set_option maxRecDepth 100000
set_option maxHeartbeats 4000000
namespace L2
open PySem PySem.Spec PyProof.Rows
theorem zbg {K : PySem.W.Frag} {a : Addr} {xs : List V} {js : List Nat} {tc : TT} {te : TE} {σ : St} {H1 : Hp} {Q : VK} (p : Nat → Bool) (f : Nat → V) (hl : SqL K H1 a xs)
    (ht : ∀ i x Hh (Q' : Bool → Hp → Prop), xs[i]? = some x → Same H1 Hh → (∀ Hh', Same Hh Hh' → Q' (p i) Hh') → tc (some x :: caps σ js) Hh Q')
    (he : ∀ i x Hh (Q' : VK), xs[i]? = some x → p i = true → Same H1 Hh → (∀ Hh', Same Hh Hh' → Q' (f i) Hh') → te (some x :: caps σ js) Hh Q')
    (hz : xs.length < sizeLine) (q : ∀ D H2, Same H1 H2 → H1 D = none → H2 D = some (.lst (((List.range xs.length).filter p).map f)) → Q (.ref D) H2) :
    ze6 (Itl K a) js tc te σ H1 Q := by
  intro D H2 s2 hD h2
  refine ⟨fun i m acc H3 => m = xs.length - i ∧ i ≤ xs.length ∧ acc = ((List.range i).filter p).map f ∧ Same H1 H3 ∧ H3 D = some (.lst acc), ⟨_, rfl, Nat.zero_le _, by simp, s2, h2⟩, ?_⟩
  rintro i m acc H3 ⟨rfl, hi, ea, s3, h3⟩
  have hl3 : SqL K H3 a xs := s3.seq hl
  have hll : acc.length ≤ xs.length := by
    rw [ea, List.length_map]
    refine Nat.le_trans (List.length_filter_le _ _) ?_
    rw [List.length_range]
    exact hi
  refine ⟨h3, by omega, ?_⟩
  by_cases hlt : i < xs.length
  · have hx : xs[i]? = some xs[i] := List.getElem?_eq_getElem hlt
    refine .inr ⟨⟨xs, _, hl3, hx⟩, fun y H4 z => ?_⟩
    obtain ⟨e, ey⟩ := z
    have ey2 := ey xs hl3
    subst e
    refine ht i y _ _ ey2 s3 fun H5 s5 => ?_
    have h5 := s5 _ _ h3
    have s35 := s3.trans s5
    have tk : (List.range (i + 1)).filter p = (List.range i).filter p ++ (if p i = true then [i] else []) := by
      rw [List.range_succ, List.filter_append]
      congr 1
      cases h : p i <;> simp [h]
    cases hp : p i with
    | true =>
      refine iteT (he i y _ _ ey2 hp s35 fun H6 s6 => ⟨s6 _ _ h5, fun H7 k7 h7 => ⟨xs.length - (i + 1), by omega, rfl, hlt, ?_, fun b o e => ?_, h7⟩⟩)
      · rw [tk, hp, if_pos rfl, List.map_append, ← ea]
        rfl
      · by_cases hb : b = D
        · subst hb
          rw [hD] at e
          cases e
        · exact k7 b o hb (s6 b o (s35 b o e))
    | false =>
      refine iteF ⟨xs.length - (i + 1), by omega, rfl, hlt, ?_, s35, h5⟩
      rw [tk, hp, if_neg Bool.false_ne_true, List.append_nil]
      exact ea
  · have e : i = xs.length := by omega
    subst e
    refine .inl ⟨⟨xs, hl3, Nat.le_refl _⟩, ?_⟩
    rw [ea] at h3
    exact q D _ s3 hD h3
theorem zcd (n : Nat) : (List.range n).filter (fun _ => true) = List.range n := by
  rw [List.filter_eq_self]
  intro _ _
  rfl
def itm {α : Type} (xs : List α) (g : α → V) (i : Nat) : V := match xs[i]? with
  | some x => g x
  | none => .non
theorem zdq {α : Type} (g : α → V) : ∀ xs : List α, (List.range xs.length).map (itm xs g) = xs.map g
  | [] => rfl
  | x :: xs => by
    rw [List.length_cons, List.range_succ_eq_map, List.map_cons, List.map_map, List.map_cons, ← zdq g xs]
    congr 1
structure IsCs (K : PySem.W.Frag) (H : Hp) (l : Addr) (ps : List (Addr × Cl)) : Prop where
  at_ : H l = some (.lst (ps.map fun q => V.ref q.1))
  cl : ∀ q, q ∈ ps → IsCl K H q.1 q.2
theorem IsCs.same {K : PySem.W.Frag} {H H' : Hp} {l : Addr} {ps : List (Addr × Cl)} (s : Same H H') (h : IsCs K H l ps) : IsCs K H' l ps := ⟨s _ _ h.at_, fun q hq => (h.cl q hq).same s⟩
theorem at_3 (x y z : V) {r : Int} (h0 : 0 ≤ r) (h1 : r < 3) : ∃ v, atI [x, y, z] r = some v ∧ (v = x ∨ v = y ∨ v = z) := by
  rcases (by omega : r = 0 ∨ r = 1 ∨ r = 2) with rfl | rfl | rfl
  · exact ⟨x, rfl, .inl rfl⟩
  · exact ⟨y, rfl, .inr (.inl rfl)⟩
  · exact ⟨z, rfl, .inr (.inr rfl)⟩
theorem zmc {n : Nat} {i : Int} (h0 : 0 ≤ i) (h1 : i < n) : ixN n i = some i.toNat := by
  unfold ixN
  rw [if_pos h0, if_pos h1]
structure St3 (H : Hp) (a : Addr) : Prop where
  ex : ∃ p q r : Int, H a = some (.lst [.int p, .int q, .int r])
theorem at_4 (x y z u : V) {r : Int} (h0 : 0 ≤ r) (h1 : r < 4) : ∃ v, atI [x, y, z, u] r = some v ∧ (v = x ∨ v = y ∨ v = z ∨ v = u) := by
  rcases (by omega : r = 0 ∨ r = 1 ∨ r = 2 ∨ r = 3) with rfl | rfl | rfl | rfl
  · exact ⟨x, rfl, .inl rfl⟩
  · exact ⟨y, rfl, .inr (.inl rfl)⟩
  · exact ⟨z, rfl, .inr (.inr (.inl rfl))⟩
  · exact ⟨u, rfl, .inr (.inr (.inr rfl))⟩
theorem zlr (c d : Cl) : HT.lexLt [c.came, c.n] [d.came, d.n] = tie c d := by
  rw [HT.lexLt_cons, HT.lexLt_cons, HT.lexLt_nil_nil]
  unfold tie
  by_cases k : c.came = d.came
  · rw [if_pos k]
    by_cases k2 : c.n = d.n
    · rw [if_pos k2, eq_comm, decide_eq_false_iff_not]
      omega
    · rw [if_neg k2, decide_eq_decide]
      omega
  · rw [if_neg k, decide_eq_decide]
    omega
section
variable {X : Cx} {tg : Expr}
end
end L2
set_option Elab.async false
set_option linter.all false
set_option maxRecDepth 100000
set_option maxHeartbeats 4000000
namespace L2
open PySem PySem.Spec PyProof.Rows
theorem zc6 {X : Cx} {iter elt : Expr} {x y : Str} {i : Nat} {px py spos : Pos} {ifs : List Expr} {scope : Scope} {pos : Pos} {wi : TI} {N : List Str} {js : List Nat} {tc : TT} {te : TE}
    (hN : X.N.Nodup) (hiN : X.N[i]? = some y) (hyl : X.env.scope.names.lookup y = some .local)
    (hc : X.calm = true) (S : CompScope X scope x N js) (hi : PI X (.Name x px) iter wi)
    (ht : ∀ cl C s₀ H₀ ex, ze5 (zay X N scope cl C s₀ H₀ ex) ifs tc) (he : ∀ cl C s₀ H₀ ex, PE (zay X N scope cl C s₀ H₀ ex) elt te)
    (hsw : swapsWith (.ListComp elt [⟨.Name x px, iter, ifs, 0⟩] scope pos) (some (.Name y py)) spos.line X.env = pure true := by rfl)
    (hs : ∀ x, foldedSetIterable iter X.env x = pure x := by intro _; rfl) :
    PS X (.Assign [.Name y py] (.ListComp elt [⟨.Name x px, iter, ifs, 0⟩] scope pos) spos) (tAsg (zl6 wi js tc te) (zcb i)) := by
  with_unfolding_all
    intro pins s σ H DD I h
    have hcells : ∀ y ∈ scope.names, y.2 = .free → ∃ c, X.env.cells.lookup y.1 = some c := fun y hy hf => I.ok.has y.1 (.inl (S.free y hy hf))
    obtain ⟨cl, ecl, cl1, cl2⟩ := zdg hcells
    rw [exec_Assign_Name_used _ _ _ _ hsw]
    refine wpAny_bind (wpAny_standAt (wpAny_bind ?_))
    show wpAny _ X.A (do let _ ← comprehension (.ListComp elt [⟨.Name x px, iter, ifs, 0⟩] scope pos) scope X.env _ (newList []) false (eval iter X.env) (some (assign (.Name y py) X.env))) _ _ s
    refine wpAny_bind (wpAny_mono (wpAny_comprehension_free (use := some (assign (.Name y py) X.env)) (Q := fun _ s' => SP X pins DD .next s') rfl hs ecl S.kind S.loc (thn (hi pins s σ H _ I h) fun v s1 h1 => thn h1 fun itv s2 h2 => ?_)) (fun _ s' hq => wpAny_pure (wpAny_pure hq)) fun _ _ e => e)
    obtain ⟨it, fp, tn, J, H2, e, I2, T, st2, f2, q2⟩ := h2
    subst e
    refine wpAny_newObj_type (wpAny_newFunctionEnv S.nocell (by intro y hy; simp at hy) (fun h₁ hns₁ hsb₁ => ?_) S.kind)
    dsimp only at hns₁ hsb₁ ⊢
    generalize hP2 : s2.heap.push { cls := .type "list", dict := none, data := .seq ([] : List Value).toArray } = P2 at hns₁ hsb₁ ⊢
    have hC : P2.objs.size = s2.heap.objs.size + 1 := by rw [← hP2, Heap.size_push]
    have below : ∀ b, b < s2.heap.objs.size → b ≠ P2.objs.size ∧ b ≠ s2.heap.objs.size := fun b hb => ⟨by rw [hC]; exact Nat.ne_of_lt (Nat.lt_succ_of_lt hb), Nat.ne_of_lt hb⟩
    have hDC : s2.heap.objs.size ≠ P2.objs.size := by rw [hC]; exact Nat.ne_of_lt (Nat.lt_succ_self _)
    have old : ∀ b o, s2.heap.get? b = some o → h₁.get? b = some o := fun b o e => hsb₁.extBut b o (below b (Heap.lt_size e)).1 (Heap.get?_push_of_some _ (hP2 ▸ Heap.get?_push_of_some _ e))
    have hD : h₁.get? s2.heap.objs.size = some { cls := .type "list", dict := none, data := .seq ([] : List Value).toArray } := hsb₁.extBut _ _ hDC (Heap.get?_push_of_some _ (hP2 ▸ Heap.get?_push_size _ rfl))
    have hDn : H2 s2.heap.objs.size = none := I2.hok.fresh (Nat.le_refl _)
    have hCn : H2 P2.objs.size = none := I2.hok.fresh (by rw [hC]; exact Nat.le_succ _)
    obtain ⟨W, ⟨m0, w0⟩, turn⟩ := q2 s2.heap.objs.size _ (zaU hDn (.lst [])) hDn zai
    have fpl : ∀ b ∈ fp, b < s2.heap.objs.size := fun b hb => by
      obtain ⟨o, e, _⟩ := T.obj 0 _ st2 b hb
      exact Heap.lt_size e
    have yok : (zay X N scope cl P2.objs.size s2 H2 fp).Ok :=
      { mod := I2.ok.mod
        kind := S.kind
        glob := I2.ok.glob
        blt := I2.ok.blt
        above := by show s2.heap.objs.size ≤ P2.objs.size; rw [hC]; exact Nat.le_succ _
        inj := fun y z c h1 h2 => I2.ok.inj y z c (cl1 y c h1) (cl1 z c h2)
        has := fun y hy => by
          have hy' : (y, NameKind.free) ∈ scope.names := by
            rcases hy with hy | hy
            · exact za3 (env := X.env) hy (.inl rfl) S.nocell
            · exact za3 (env := X.env) hy (.inr rfl) S.nocell
          exact cl2 y hy'
        cab := fun y c hf _ => by cases hf
        hd := fun hc' => I2.ok.hd hc'
        frames := I2.ok.frames
        stk := .inl rfl
        exf := fun b hb => ⟨(below b (fpl b hb)).1, fun y c e => (f2 b hb).2.2.2.2.1 y c (cl1 y c e)⟩
        bs := I2.bs
        bsz := Nat.le_trans I2.ok.bsz I2.sz
        noex := fun b o e hb => by
          rcases (f2 b hb).2.2.2.1 with z | z
          · exact I2.ok.noex b o e z
          · exact absurd (Nat.lt_of_lt_of_le (Nat.lt_of_lt_of_le (Heap.lt_size e) I2.ok.bsz) z) (Nat.lt_irrefl _)
        exfs := fun b hb hf => by
          rcases List.mem_cons.mp (I2.stkSub b hf) with z | z
          · exact (f2 b hb).2.1 z
          · exact (f2 b hb).2.2.1 z
        funs := I2.stack
        frf := I2.stkFree }
    have hokD : HOk X.prog X.w (upd H2 s2.heap.objs.size (.lst [])) h₁ := I2.hok.laid old (Nat.le_refl _) ⟨Nat.zero_le _, [], 0, .nil, hD⟩
    have I3 : Inv (zay X N scope cl P2.objs.size s2 H2 fp) [] (none :: caps σ js) (upd H2 s2.heap.objs.size (.lst [])) { s2 with heap := h₁, toks := s2.toks + ([] : List (Str × Value)).length } :=
      { ok := yok
        os := rfl
        bare := I2.bare
        base := Un.laid old (Nat.le_refl _) hDn
        loc := by
          refine ⟨_, hns₁, fun i y v e1 e2 e3 => ?_⟩
          cases i with
          | zero => simp at e2
          | succ k =>
            have e2' : (caps σ js)[k]? = some (some v) := by simpa using e2
            unfold caps at e2'
            rw [List.getElem?_map] at e2'
            cases ej : js[k]? with
            | none => rw [ej] at e2'; cases e2'
            | some j =>
              rw [ej] at e2'
              have e4 : (σ[j]?).join = some v := Option.some.inj e2'
              have e5 : σ[j]? = some (some v) := by
                cases eσ : σ[j]? with
                | none => rw [eσ] at e4; cases e4
                | some o => rw [eσ] at e4; exact congrArg some e4
              obtain ⟨n1, n2, n3, n4⟩ := S.cap k j y e1 ej
              obtain ⟨mX, _, lX⟩ := I2.loc
              obtain ⟨u, ru, lk⟩ := lX j y v n1 e5 n2
              refine ⟨u, ru, ?_⟩
              rcases lk with ⟨lk, _⟩ | ⟨_, c, ec, cell⟩
              · rw [n3] at lk; cases lk
              · obtain ⟨c', ec'⟩ := cl2 y n4
                have : c' = c := Option.some.inj ((cl1 y c' ec').symm.trans ec)
                subst this
                obtain ⟨o, ho, hd⟩ := cell
                refine .inr ⟨?_, c', ec', ⟨o, old _ _ ho, hd⟩⟩
                have e3' : (relabel scope X.env).names.lookup y = some .local ∨ (relabel scope X.env).names.lookup y = some .cell ∨ (relabel scope X.env).names.lookup y = some .free := e3
                rcases e3' with z | z | z
                · exfalso
                  have hm := PySem.mem_of_lookup z
                  obtain ⟨⟨n, k'⟩, hn, e⟩ := List.mem_map.mp hm
                  dsimp only at e
                  by_cases cc : (k' == NameKind.free && X.env.scope.kind == .function && X.env.kindOf n == some .cell) = true
                  · rw [if_pos cc] at e
                    cases e
                  · rw [if_neg cc] at e
                    cases e
                    have l1 := S.loc _ hn rfl
                    have l2 := lookup_relabel_local (env := X.env) l1
                    have f1 := S.free _ n4 rfl
                    exact S.apart y l1 n4
                · exact .inl z
                · exact .inr z
        cell := fun y c e => by
          obtain ⟨v, o, ho, hd⟩ := I2.cell y c (cl1 y c e)
          exact ⟨v, o, old _ _ ho, hd⟩
        free := by show upd H2 s2.heap.objs.size (.lst []) P2.objs.size = none; rw [zah (Ne.symm hDC)]; exact hCn
        freeC := fun y c e => by
          obtain ⟨v, o, ho, hd⟩ := I2.cell y c (cl1 y c e)
          rw [zah (below c (Heap.lt_size ho)).2]
          exact I2.freeC y c (cl1 y c e)
        pin := fun p hp => by simp at hp
        hok := hokD
        len := by show (none :: caps σ js).length = N.length; rw [S.len]; simp [caps] }
    have st3 : tn 0 h₁ := T.keep 0 _ _ st2 fun b _ o e => old b o e
    have fr3 : ∀ b ∈ fp, (upd H2 s2.heap.objs.size (.lst [])) b = none := fun b hb => by
      rw [zah (below b (fpl b hb)).2]
      exact (f2 b hb).1
    have stat : ∀ {H' : Hp}, (∀ b ∈ fp, H' b = none) → ∀ b ∈ fp, FpOk (zay X N scope cl P2.objs.size s2 H2 fp) [] H' b := fun hn b hb =>
      ⟨hn b hb, (below b (fpl b hb)).1, yok.exfs b hb, .inl hb, fun y c e => (f2 b hb).2.2.2.2.1 y c (cl1 y c e), fun p hp => by simp at hp⟩
    have pgn : PG (zay X N scope cl P2.objs.size s2 H2 fp) (.Name x px) (zcb 0) := zaD S.nd S.head (.inl (lookup_relabel_local S.own)) (.inr (lookup_relabel_local S.own))
    have loop : ∀ s₃ : Shared, s₃ = { s2 with heap := h₁, toks := s2.toks + ([] : List (Str × Value)).length } →
        codeAny (model X.prog X.w) X.A (.compLoop (.ListComp elt [⟨.Name x px, iter, ifs, 0⟩] scope pos) 0 (.ref it) (.ref s2.heap.objs.size) (compEnvC scope cl P2.objs.size X.env))
          (compPost (model X.prog X.w) X.A X.xe (some (assign (.Name y py) X.env)) (fun _ s' => SP X pins DD .next s') (.ref s2.heap.objs.size) P2.objs.size) s₃ := by
      rintro s₃ rfl
      refine codeAny_loop rfl (fun n s' => ∃ i o acc H', Inv (zay X N scope cl P2.objs.size s2 H2 fp) [] (o :: caps σ js) H' s' ∧ tn i s'.heap ∧ (∀ b ∈ fp, H' b = none) ∧ W i n acc H') ?_ m0 ⟨0, none, [], _, I3, st3, fr3, w0⟩
      rintro n s4 ⟨i, o, acc, H4, I4, st4, fr4, w4⟩
      show wpAny _ X.A ((compTurn (.ListComp elt [⟨.Name x px, iter, ifs, 0⟩] scope pos) 0 (.ref it) (.ref s2.heap.objs.size) (compEnvC scope cl P2.objs.size X.env)).onRaise (fun x => do noteFrame x (compEnvC scope cl P2.objs.size X.env); theTreesLotGoes x)) _ _ s4
      refine wpAny_noted ?_
      rw [compTurn_list]
      refine wpAny_bind (wpAny_standAt (wpAny_bind ?_))
      obtain ⟨hD4, hz4, alt⟩ := turn i n acc H4 w4
      rcases alt with ⟨stop, qn⟩ | ⟨go, step⟩
      · refine thn (T.done (zay X N scope cl P2.objs.size s2 H2 fp) rfl rfl rfl hc i [] s4 _ H4 _ I4 (stat fr4) st4 stop) fun r s5 ⟨hr, I5⟩ => ?_
        subst hr
        refine wpAny_pure ?_
        obtain ⟨m5, n5, _⟩ := I5.loc
        have u5 := I5.base
        have nC : ∀ b o, s2.heap.get? b = some o → b ≠ P2.objs.size := fun b o e => (below b (Heap.lt_size e)).1
        have IX : Inv X pins σ H4 s5 := by
          refine I2.call' (s' := s5) (ch := fp) I5.os ?_ I5.hok I5.bare fun b hb => ⟨(f2 b hb).2.2.2.1, (f2 b hb).2.1, (f2 b hb).2.2.2.2.1, (f2 b hb).2.2.2.2.2⟩
          exact ⟨u5.keep, u5.slot, u5.free, u5.there, u5.tups, u5.frzs, u5.tbls⟩
        obtain ⟨g0, g1, g2, g3, g4, g5⟩ := I2.fpOk (b := P2.objs.size) (H' := H4) (by rw [hC]; exact Nat.le_succ _) I5.free
        refine wpAny_assign_Name (zem IX hN hiN (.inl hyl) (v := .ref s2.heap.objs.size) rfl (fun s6 I6 ⟨aa, sb6, ha⟩ => ?_) (.inr hyl))
        have hCa : P2.objs.size ≠ aa := by
          rcases ha with rfl | ha
          · exact g1
          · exact fun z => g4 _ _ ha z.symm
        refine ⟨m5, n5.sameBut sb6 hCa, fun h' sb => ⟨_, H4, ?_, qn⟩⟩
        exact I6.turned (t' := s6.toks) (fun b o hb e => sb.extBut b o hb e) g0 g1 g3 g4 g5
      · refine thn (T.item (zay X N scope cl P2.objs.size s2 H2 fp) rfl rfl rfl hc i [] s4 _ H4 _ I4 (stat fr4) st4 go) fun r s5 ⟨u, hr, h5⟩ => ?_
        subst hr
        refine wpAny_bind (thn h5 fun _ s6 ⟨y, H6, I6, r6, y6, st6, fr6⟩ => ?_)
        have I6' := I6.pinned (stat fr6) (T.obj _ _ st6)
        refine wpAny_bind (wpAny_mono (pgn _ s6 (o :: caps σ js) H6 y u (fun σ' H' => σ' = some y :: caps σ js ∧ H' = H6) I6' r6 ⟨rfl, rfl⟩) (fun _ s7 ⟨σ7, H7, I7, e7, e8⟩ => ?_) fun _ _ z => z.elim)
        subst e7 e8
        have back : ∀ {s9 : Shared} {H9 : Hp} {acc9 : List V} {m9 : Nat}, Inv (zay X N scope cl P2.objs.size s2 H2 fp) ([] ++ zd3 fp s6.heap) (some y :: caps σ js) H9 s9 → m9 < n → W (i + 1) m9 acc9 H9 →
            ∃ m, m < n ∧ ∃ i o acc H', Inv (zay X N scope cl P2.objs.size s2 H2 fp) [] (o :: caps σ js) H' s9 ∧ tn i s9.heap ∧ (∀ b ∈ fp, H' b = none) ∧ W i m acc H' := fun {s9 H9 acc9 m9} I9 hm w9 => by
          refine ⟨m9, hm, i + 1, some y, acc9, H9, I9.unpinned, T.keep _ _ _ st6 fun b hb o e => (I9.pin (b, o) (List.mem_append_right _ (List.mem_append_right _ (zbd hb e)))).1, fun b hb => ?_, w9⟩
          obtain ⟨o, e, d⟩ := T.obj _ _ st6 b hb
          exact (I9.pin (b, o) (List.mem_append_right _ (List.mem_append_right _ (zbd hb e)))).2.1
        refine wpAny_bind (wpAny_mono (ht cl _ s2 H2 fp _ s7 _ _ _ I7 (step y _ y6)) (fun ok s8 ⟨H8, I8, q8⟩ => ?_) fun _ _ z => z.elim)
        cases ok with
        | false =>
          obtain ⟨m9, hm, w9⟩ := q8
          exact wpAny_pure ⟨rfl, back I8 hm w9⟩
        | true =>
          refine wpAny_bind (wpAny_bind (wpAny_mono (he cl _ s2 H2 fp _ s8 _ _ _ I8 q8) (fun xv s9 ⟨v9, H9, I9, r9, hD9, q9⟩ => ?_) fun _ _ z => z.elim))
          refine wpAny_bind (wpAny_mono (zc4 (X := zay X N scope cl P2.objs.size s2 H2 fp) _ s9 _ H9 (.ref s2.heap.objs.size) [v9] (.ref s2.heap.objs.size) [xv] (fun _ H' => H' = upd H9 s2.heap.objs.size (.lst (acc ++ [v9]))) I9 rfl (.cons r9 .nil) ⟨_, acc, v9, rfl, rfl, hD9, hz4, rfl⟩) (fun _ s10 ⟨v10, H10, I10, _, e10⟩ => ?_) fun _ _ z => z.elim)
          subst e10
          obtain ⟨m9, hm, w9⟩ := q9 _ (fun b o hb e => by rw [zah hb]; exact e) zai
          exact wpAny_pure (wpAny_pure ⟨rfl, back I10 hm w9⟩)
    exact codeAny_compStart_list (loop _ rfl) (T.self _ 0 _ _ _ st3 (loop _ rfl))
end L2
set_option Elab.async false
set_option linter.all false
set_option maxRecDepth 100000
namespace L2
open PySem PySem.Spec PyProof.Rows
theorem zmd : bootBuiltins "any" = some (.builtin "any") := by decide +kernel
section
variable {X : Cx}
end
end L2
set_option Elab.async false
set_option linter.all false
namespace L2
open PySem.W PyProof.Rows
structure Tot (n : Nat) (lt : Nat → Nat → Bool) : Prop where
  asym : ∀ i j, i < n → j < n → lt i j = true → lt j i = false
  tot : ∀ i j, i < n → j < n → i ≠ j → lt i j = false → lt j i = true
  trans : ∀ i j k, i < n → j < n → k < n → lt i j = true → lt j k = true → lt i k = true
def Asks {α : Type} (n : Nat) (lt : Nat → Nat → Bool) : KasT α → (α → Prop) → Prop
  | .ret a, Q => Q a
  | .ask i j k, Q => i < n ∧ j < n ∧ i ≠ j ∧ Asks n lt (k (lt i j)) Q
theorem Asks.bind {α β : Type} {n : Nat} {lt : Nat → Nat → Bool} {f : α → KasT β} {R : α → Prop} {Q : β → Prop} (hf : ∀ a, R a → Asks n lt (f a) Q) : ∀ (t : KasT α), Asks n lt t R → Asks n lt (t.bind f) Q
  | .ret a, h => hf a h
  | .ask i j k, ⟨h1, h2, h3, h4⟩ => ⟨h1, h2, h3, Asks.bind hf (k (lt i j)) h4⟩
theorem Asks.mono {α : Type} {n : Nat} {lt : Nat → Nat → Bool} {R Q : α → Prop} (hf : ∀ a, R a → Q a) : ∀ (t : KasT α), Asks n lt t R → Asks n lt t Q
  | .ret a, h => hf a h
  | .ask i j k, ⟨h1, h2, h3, h4⟩ => ⟨h1, h2, h3, Asks.mono hf (k (lt i j)) h4⟩
structure Pm (n : Nat) (p : Array Nat) : Prop where
  pm : p.toList.Perm (List.range n)
theorem Pm.sz {n : Nat} {p : Array Nat} (h : Pm n p) : p.size = n := by
  have := h.pm.length_eq
  simpa using this
theorem atq (p : Array Nat) (i : Nat) : p.getD i 0 = (p[i]?).getD 0 := by
  rw [Array.getD_eq_getD_getElem?]
theorem Pm.lt {n : Nat} {p : Array Nat} (h : Pm n p) {i : Nat} (hi : i < n) : p.getD i 0 < n := by
  have hs : i < p.size := by rw [h.sz]; exact hi
  have m : p.getD i 0 ∈ p.toList := by
    rw [atq, Array.getElem?_eq_getElem hs]
    simp
  exact List.mem_range.mp (h.pm.mem_iff.mp m)
theorem Pm.inj {n : Nat} {p : Array Nat} (h : Pm n p) {i j : Nat} (hi : i < n) (hj : j < n) (e : p.getD i 0 = p.getD j 0) : i = j := by
  have hs : i < p.size := by rw [h.sz]; exact hi
  have ht : j < p.size := by rw [h.sz]; exact hj
  have nd : p.toList.Nodup := h.pm.nodup_iff.mpr List.nodup_range
  rw [atq, atq, Array.getElem?_eq_getElem hs, Array.getElem?_eq_getElem ht] at e
  have e' : p.toList[i]'(by simpa using hs) = p.toList[j]'(by simpa using ht) := by simpa using e
  exact (List.getElem_inj nd).mp e'
def Sd (lt : Nat → Nat → Bool) (p : Array Nat) (k : Nat) : Prop := ∀ i j, i < j → j < k → lt (p.getD i 0) (p.getD j 0) = true
def Dd (lt : Nat → Nat → Bool) (p : Array Nat) (k : Nat) : Prop := ∀ i j, i < j → j < k → lt (p.getD j 0) (p.getD i 0) = true
section
variable {n : Nat} {lt : Nat → Nat → Bool} (T : Tot n lt)
include T
theorem zi5 {p : Array Nat} (P : Pm n p) : ∀ f a, 1 ≤ a → a + f ≤ n → Sd lt p a → Asks n lt (kas_asc p f a) (fun m => a ≤ m ∧ m ≤ a + f ∧ Sd lt p m ∧ (m < a + f → lt (p.getD m 0) (p.getD (m - 1) 0) = true))
  | 0, a, h1, h2, s => ⟨Nat.le_refl _, Nat.le_refl _, s, fun z => by omega⟩
  | f + 1, a, h1, h2, s => by
    refine ⟨P.lt (by omega), P.lt (by omega), fun e => ?_, ?_⟩
    · have := P.inj (by omega) (by omega) e
      omega
    · cases c : lt (p.getD a 0) (p.getD (a - 1) 0) with
      | true => exact ⟨Nat.le_refl _, by omega, s, fun _ => c⟩
      | false =>
        have c' := T.tot _ _ (P.lt (i := a) (by omega)) (P.lt (i := a - 1) (by omega)) (fun e => by have := P.inj (by omega) (by omega) e; omega) c
        have s' : Sd lt p (a + 1) := fun i j ij ja => by
          by_cases z : j < a
          · exact s i j ij z
          · have : j = a := by omega
            subst this
            by_cases y : i = j - 1
            · rw [y]; exact c'
            · exact T.trans _ (p.getD (j - 1) 0) _ (P.lt (by omega)) (P.lt (by omega)) (P.lt (by omega)) (s i (j - 1) (by omega) (by omega)) c'
        have r := zi5 P f (a + 1) (by omega) (by omega) s'
        refine Asks.mono (fun m hm => ?_) _ r
        exact ⟨by omega, by omega, hm.2.2.1, fun z => hm.2.2.2 (by omega)⟩
theorem zi6 {p : Array Nat} (P : Pm n p) : ∀ f a, 1 ≤ a → a + f ≤ n → Dd lt p a → Asks n lt (kas_desc f p a 0) (fun r => r.1 = p ∧ r.2.2 = 0 ∧ a ≤ r.2.1 ∧ r.2.1 ≤ a + f ∧ Dd lt p r.2.1)
  | 0, a, h1, h2, s => ⟨rfl, rfl, Nat.le_refl _, Nat.le_refl _, s⟩
  | f + 1, a, h1, h2, s => by
    have ne : p.getD a 0 ≠ p.getD (a - 1) 0 := fun e => by have := P.inj (by omega) (by omega) e; omega
    refine ⟨P.lt (by omega), P.lt (by omega), ne, ?_⟩
    cases c : lt (p.getD a 0) (p.getD (a - 1) 0) with
    | true =>
      have s' : Dd lt p (a + 1) := fun i j ij ja => by
        by_cases z : j < a
        · exact s i j ij z
        · have : j = a := by omega
          subst this
          by_cases y : i = j - 1
          · rw [y]; exact c
          · exact T.trans _ (p.getD (j - 1) 0) _ (P.lt (by omega)) (P.lt (by omega)) (P.lt (by omega)) c (s i (j - 1) (by omega) (by omega))
      have r := zi6 P f (a + 1) (by omega) (by omega) s'
      exact Asks.mono (fun m hm => ⟨hm.1, hm.2.1, by omega, by omega, hm.2.2.2.2⟩) _ r
    | false =>
      have c' := T.tot _ _ (P.lt (i := a) (by omega)) (P.lt (i := a - 1) (by omega)) ne c
      refine ⟨P.lt (by omega), P.lt (by omega), fun e => ne e.symm, ?_⟩
      rw [c']
      exact ⟨rfl, rfl, Nat.le_refl _, show a ≤ a + (f + 1) by omega, s⟩
omit T in
theorem zkC {p : Array Nat} {k : Nat} (hk : k ≤ p.size) (i : Nat) : (kas_rev p 0 k).getD i 0 = if i < k then p.getD (k - 1 - i) 0 else p.getD i 0 := by
  rw [atq]
  unfold kas_rev
  rw [getElem?_mirror_all hk]
  by_cases z : i < k
  · rw [if_pos ⟨Nat.zero_le _, z⟩, if_pos z, atq, Nat.zero_add]
  · rw [if_neg (fun y => z y.2), if_neg z, atq]
omit T in
theorem Pm.rev {p : Array Nat} (P : Pm n p) (i k : Nat) : Pm n (kas_rev p i k) := ⟨(Array.perm_iff_toList_perm.mp (mirror_perm p i k _)).trans P.pm⟩
omit T in
theorem Pm.bub {p : Array Nat} (P : Pm n p) (i k : Nat) : Pm n (bubble p i k) := ⟨(Array.perm_iff_toList_perm.mp (bubble_perm p i k)).trans P.pm⟩
theorem zj2 {p : Array Nat} (P : Pm n p) {k : Nat} (k1 : 1 ≤ k) (kn : k ≤ n) (d : Dd lt p k) : Asks n lt (kas_tail3 k n p) (fun r => 1 ≤ r.1 ∧ r.1 ≤ n ∧ Pm n r.2 ∧ Sd lt r.2 r.1) := by
  have P' := P.rev 0 k
  have s : Sd lt (kas_rev p 0 k) k := fun i j ij jk => by
    rw [zkC (by rw [P.sz]; exact kn), zkC (by rw [P.sz]; exact kn), if_pos (by omega), if_pos jk]
    exact d _ _ (by omega) (by omega)
  unfold kas_tail3
  refine Asks.bind (fun m hm => ?_) _ (zi5 T P' (n - k) k k1 (by omega) s)
  exact (show 1 ≤ m ∧ m ≤ n ∧ Pm n (kas_rev p 0 k) ∧ Sd lt (kas_rev p 0 k) m from ⟨by omega, by omega, P', hm.2.2.1⟩)
theorem zgE {p : Array Nat} (P : Pm n p) (n2 : 2 ≤ n) (c : lt (p.getD 1 0) (p.getD 0 0) = true) : Asks n lt (kas_descPart 1 n p) (fun r => 1 ≤ r.1 ∧ r.1 ≤ n ∧ Pm n r.2 ∧ Sd lt r.2 r.1) := by
  refine Asks.bind (fun r hr => ?_) _ (zi6 T P (n - 2) 2 (by omega) (by omega) (fun i j ij j2 => ?_))
  · obtain ⟨e1, e2, h1, h2, d⟩ := hr
    rw [if_neg (by omega), e1]
    exact zj2 T P (by omega) (by omega) d
  · have : i = 0 := by omega
    have : j = 1 := by omega
    subst i j
    exact c
theorem zj3 {p : Array Nat} (P : Pm n p) (n2 : 2 ≤ n) : Asks n lt (kas_count n p) (fun r => 1 ≤ r.1 ∧ r.1 ≤ n ∧ Pm n r.2 ∧ Sd lt r.2 r.1) := by
  refine Asks.bind (fun m hm => ?_) _ (zi5 T P (n - 1) 1 (Nat.le_refl _) (by omega) (fun i j ij j1 => by omega))
  obtain ⟨h1, h2, s, c⟩ := hm
  by_cases z : m = n
  · rw [if_pos (by simp [z])]
    exact ⟨h1, by omega, P, s⟩
  · rw [if_neg (by simp [z])]
    have c := c (by omega)
    by_cases y : m > 1
    · rw [if_pos y]
      refine ⟨P.lt (by omega), P.lt (by omega), fun e => ?_, ?_⟩
      · have := P.inj (by omega) (by omega) e
        omega
      · rw [s 0 (m - 1) (by omega) (by omega)]
        exact ⟨h1, by omega, P, s⟩
    · rw [if_neg y]
      have : m = 1 := by omega
      subst this
      exact zgE T P n2 c
theorem zfp {p : Array Nat} (P : Pm n p) {k : Nat} (kn : k < n) (s : Sd lt p k) : ∀ f l r, l ≤ r → r ≤ k → r - l ≤ f → (∀ i, i < l → lt (p.getD i 0) (p.getD k 0) = true) → (∀ i, r ≤ i → i < k → lt (p.getD k 0) (p.getD i 0) = true) →
    Asks n lt (kas_place p k f l r) (fun m => m ≤ k ∧ (∀ i, i < m → lt (p.getD i 0) (p.getD k 0) = true) ∧ (∀ i, m ≤ i → i < k → lt (p.getD k 0) (p.getD i 0) = true))
  | 0, l, r, lr, rk, f0, a, b => by
    have : l = r := by omega
    subst this
    exact ⟨rk, a, b⟩
  | f + 1, l, r, lr, rk, f0, a, b => by
    unfold kas_place
    by_cases z : l ≥ r
    · rw [if_pos z]
      have : l = r := by omega
      subst this
      exact ⟨rk, a, b⟩
    · rw [if_neg z]
      have m1 : (l + r) / 2 < r := by omega
      have m2 : l ≤ (l + r) / 2 := by omega
      generalize (l + r) / 2 = m at m1 m2
      have ne : p.getD k 0 ≠ p.getD m 0 := fun e => by have := P.inj kn (by omega) e; omega
      refine ⟨P.lt kn, P.lt (by omega), ne, ?_⟩
      cases c : lt (p.getD k 0) (p.getD m 0) with
      | true =>
        refine zfp P kn s f l m m2 (by omega) (by omega) a fun i mi ik => ?_
        by_cases y : i = m
        · rw [y]; exact c
        · exact T.trans _ (p.getD m 0) _ (P.lt kn) (P.lt (by omega)) (P.lt (by omega)) c (s m i (by omega) ik)
      | false =>
        have c' := T.tot _ _ (P.lt kn) (P.lt (i := m) (by omega)) ne c
        refine zfp P kn s f (m + 1) r (by omega) rk (by omega) (fun i im => ?_) b
        by_cases y : i = m
        · rw [y]; exact c'
        · exact T.trans _ (p.getD m 0) _ (P.lt (by omega)) (P.lt (by omega)) (P.lt kn) (s i m (by omega) (by omega)) c'
theorem zkD : ∀ f (p : Array Nat) (k : Nat), Pm n p → k + f = n → Sd lt p k → Asks n lt (kas_bin f p k) (fun p' => Pm n p' ∧ Sd lt p' n)
  | 0, p, k, P, e, s => ⟨P, by rw [← e]; exact s⟩
  | f + 1, p, k, P, e, s => by
    refine Asks.bind (fun l hl => ?_) _ (zfp T P (by omega) s k 0 k (by omega) (Nat.le_refl _) (by omega) (fun i z => by omega) (fun i z y => by omega))
    obtain ⟨lk, h1, h2⟩ := hl
    refine zkD f _ (k + 1) (P.bub k (k - l)) (by omega) ?_
    have b : ∀ i, (bubble p k (k - l)).getD i 0 = if i = l then p.getD k 0 else if l < i ∧ i ≤ k then p.getD (i - 1) 0 else p.getD i 0 := fun i => by
      rw [atq, getElem?_bubble (by rw [P.sz]; omega) _ (by omega), show k - (k - l) = l by omega]
      by_cases z : i = l
      · rw [if_pos z, if_pos z, atq]
      · rw [if_neg z, if_neg z]
        by_cases y : l < i ∧ i ≤ k
        · rw [if_pos y, if_pos y, atq]
        · rw [if_neg y, if_neg y, atq]
    intro i j ij jk
    rw [b i, b j]
    by_cases z : i = l
    · rw [if_pos z, if_neg (by omega), if_pos ⟨by omega, by omega⟩]
      exact h2 _ (by omega) (by omega)
    · rw [if_neg z]
      by_cases y : j = l
      · rw [if_pos y, if_neg (by omega)]
        exact h1 _ (by omega)
      · rw [if_neg y]
        by_cases x : l < i ∧ i ≤ k
        · rw [if_pos x, if_pos ⟨by omega, by omega⟩]
          exact s _ _ (by omega) (by omega)
        · rw [if_neg x]
          by_cases v : l < j ∧ j ≤ k
          · rw [if_pos v]
            exact s _ _ (by omega) (by omega)
          · rw [if_neg v]
            exact s _ _ ij (by omega)
theorem zi7 (n2 : 2 ≤ n) : Asks n lt (kas_sort n) (fun p => Pm n p ∧ Sd lt p n) := by
  refine Asks.bind (fun r hr => ?_) _ (zj3 T ⟨by simp⟩ n2)
  obtain ⟨h1, h2, P, s⟩ := hr
  by_cases z : r.1 < n
  · rw [if_pos z, Nat.max_eq_left h1]
    exact zkD T _ _ _ P (by omega) s
  · rw [if_neg z]
    have : r.1 = n := by omega
    rw [this] at s
    exact ⟨P, s⟩
end
end L2
set_option Elab.async false
set_option linter.all false
set_option maxRecDepth 100000
set_option maxHeartbeats 4000000
namespace L2
open PySem PySem.Spec PyProof.Rows
structure Site (K : PySem.W.Frag) (mg : Str → Option Value) (base : Heap) (cv : Value) (T : Addr) : Prop where
  ex : ∃ c, cv = .ref c ∧ PySem.W.CodeHd base c T
  bm : base.BuiltinsAt mg T
structure Lam (X : Cx) (H : Hp) (q : Str) (ar : Arguments) (body : Expr) (scope : Scope) (f : Addr) (cl : List (Str × Addr)) : Prop where
  ex : ∃ pm c ct oc us t o, H f = some (.frz o (.own f)) ∧ o.data = .func (PySem.W.kla_fn "<lambda>" q ar body scope cl pm (.ref c) ct) ∧ H c = some (.frz oc (.own c)) ∧ oc.data = .fields us ∧ us[1]? = some (.str q t)
  c1 : ∀ x c, cl.lookup x = some c → X.env.cells.lookup x = some c
  c2 : ∀ x, (x, NameKind.free) ∈ scope.names → ∃ c, cl.lookup x = some c
  c3 : ∀ x c, cl.lookup x = some c → (x, NameKind.free) ∈ scope.names
theorem Lam.same {X : Cx} {H H' : Hp} {q : Str} {ar : Arguments} {body : Expr} {scope : Scope} {f : Addr} {cl : List (Str × Addr)} (s : Same H H') (h : Lam X H q ar body scope f cl) : Lam X H' q ar body scope f cl := by
  obtain ⟨pm, c, ct, oc, us, t, o, e1, e2, e3, e4⟩ := h.ex
  exact ⟨⟨pm, c, ct, oc, us, t, o, s _ _ e1, e2, s _ _ e3, e4⟩, h.c1, h.c2, h.c3⟩
section
variable {X : Cx} {pins : List (Addr × Obj)} {σ : St} {H : Hp} {s : Shared}
theorem zj4 {ar : Arguments} {body : Expr} {scope : Scope} {lp : Pos} {q : Str} {x : Str} {N : List Str} {js : List Nat} {T : Addr} {Q : Value → Shared → Prop}
    (I : Inv X pins σ H s) (S : CompScope X scope x N js) (D : Site X.K X.mg X.base X.env.code T) (hT : H T = some (.tbl lp q)) (hq : X.env.qual ++ "<lambda>" = q) (hd : defaultsOf ar X.env = ([], []))
    (h : ∀ f cl s' H', Inv X pins σ H' s' → Same H H' → Lam X H' q ar body scope f cl → Q (.ref f) s') : wpAny (model X.prog X.w) X.A (eval (.Lambda ar body scope lp) X.env) Q X.xe s := by
  have hcells : ∀ y ∈ scope.names, y.2 = .free → ∃ c, X.env.cells.lookup y.1 = some c := fun y hy hf => I.ok.has y.1 (.inl (S.free y hy hf))
  obtain ⟨cl, ecl, cl1, cl2, cl3⟩ := zgB hcells
  obtain ⟨c, hc, C⟩ := D.ex
  have B := D.bm.keeps I.bk
  have C' := C.keeps I.bk
  obtain ⟨vs, eT, tr, alt⟩ := I.hok T _ hT
  have hg : s.heap.Ns mainGlobals X.mg := I.mod.glob.keeps I.bk
  refine PySem.W.kla_eval hd ?_
  rw [hq]
  have old : ∀ b o, s.heap.get? b = some o → b < s.heap.objs.size := fun b o e => Heap.lt_size e
  have trk : ∀ b u, H b = some u → b < s.heap.objs.size := fun b u e => I.hok.lt e
  rcases alt with alt | ⟨c', oc, us, t, e1, e2, e3, e4⟩
  · have hgT : mainGlobals ≠ T := fun z => by
      obtain ⟨o, es, ep, e, d, _⟩ := id hg
      rw [z, eT] at e
      cases e
      cases d
    refine PySem.W.kla_makeFunction (mg := X.mg) ecl I.ok.glob hg hc C' eT tr alt hgT B fun c' ctv h' tk hx hge hlt hrec htb => ?_
    obtain ⟨c2, oc, us, t, ec, hoc, hd1, hd2⟩ := hrec
    cases ec
    generalize hfo : PySem.W.kla_obj "<lambda>" q ar body scope cl ((X.mg "__name__").getD .none) c' ctv = fo
    have fd : fo.data = .func (PySem.W.kla_fn "<lambda>" q ar body scope cl ((X.mg "__name__").getD .none) (.ref c') ctv) := by rw [← hfo]
    have ff : fo.isFreed = false := by rw [← hfo]; rfl
    have nT : ∀ b, H b = none → b ≠ T := fun b n z => by rw [z, hT] at n; cases n
    have hf : h'.objs.size ≠ c' := Nat.ne_of_gt hlt
    have nf : ∀ b, b < s.heap.objs.size → b ≠ h'.objs.size := fun b hb => Nat.ne_of_lt (Nat.lt_trans (Nat.lt_of_lt_of_le hb hge) hlt)
    have nc : ∀ b, b < s.heap.objs.size → b ≠ c' := fun b hb => Nat.ne_of_lt (Nat.lt_of_lt_of_le hb hge)
    have kp : ∀ b o, b ≠ T → s.heap.get? b = some o → (h'.push fo).get? b = some o := fun b o n e => Heap.get?_push_of_some _ (hx b o n e)
    have sm : Same H (upd (upd H c' (.frz oc (.own c'))) h'.objs.size (.frz fo (.own h'.objs.size))) := fun b u e => by
      rw [zah (nf b (trk b u e)), zah (nc b (trk b u e))]
      exact e
    have hcF : (upd (upd H c' (.frz oc (.own c'))) h'.objs.size (.frz fo (.own h'.objs.size))) c' = some (.frz oc (.own c')) := by
      rw [zah (Ne.symm hf), zai]
    refine h h'.objs.size cl _ _ (I.step (g' := s.gens) (d' := s.drawn) (ch := []) (h' := h'.push fo) (t' := tk) (H' := upd (upd H c' (.frz oc (.own c'))) h'.objs.size (.frz fo (.own h'.objs.size))) (fun _ z => nomatch z) (fun b o _ _ _ e n => kp b o (nT b n) e) (fun b o _ _ _ e n => ⟨o.slots, kp b o (nT b n) e⟩)
      (fun b o _ e n => ?_) (fun b o _ e => ?_) (fun b xs e => sm b _ e) (fun b o u e => sm b _ e) (fun b p r e => sm b _ e) (fun m hm => ?_) (fun b u e => ?_) I.bare) sm ⟨⟨_, c', ctv, oc, us, t, fo, zai, fd, hcF, hd1, hd2⟩, cl1, cl2, cl3⟩
    · rw [zah (nf b (old b o e)), zah (nc b (old b o e))]
      exact n
    · by_cases z : b = T
      · exact ⟨_, by rw [z]; exact Heap.get?_push_of_some _ htb⟩
      · exact ⟨o, kp b o z e⟩
    · exact (hm.extBut hx (nT _ I.free)).push _
    · by_cases z : b = h'.objs.size
      · subst z
        rw [zai] at e
        cases e
        exact ⟨Heap.get?_push_size _ ff, _, Heap.get?_push_size _ ff⟩
      · rw [zah z] at e
        by_cases y : b = c'
        · subst y
          rw [zai] at e
          cases e
          exact ⟨Heap.get?_push_of_some _ hoc, _, Heap.get?_push_of_some _ hoc⟩
        · rw [zah y] at e
          by_cases w : b = T
          · subst w
            rw [hT] at e
            cases e
            refine ⟨_, Heap.get?_push_of_some _ htb, ?_, .inr ⟨c', oc, us, t, ?_, hcF, hd1, hd2⟩⟩
            · rw [Array.toList_append]
              exact TriplesOk_snoc _ _ _ _ tr
            · rw [Array.toList_append]
              exact codeAmong_snoc _ tr alt
          · refine (I.hok b u e).stay (fun d v hd q => kp d v ?_ q) (fun d q => sm d _ q) (fun d xs q => sm d _ q) fun d ob xs q => sm d _ q
            rintro rfl
            rcases hd with z | z
            · exact w z.symm
            · rw [hT] at z; cases z
  · refine PySem.W.kla_makeFunctionHit (mg := X.mg) ecl I.ok.glob hg hc C' eT tr e1 B fun ctv h' tk hk hsz => ?_
    generalize hfo : ({ cls := .type "function", data := .func (PySem.W.kla_fn "<lambda>" q ar body scope cl ((X.mg "__name__").getD .none) (.ref c') ctv) } : Obj) = fo
    have fd : fo.data = .func (PySem.W.kla_fn "<lambda>" q ar body scope cl ((X.mg "__name__").getD .none) (.ref c') ctv) := by rw [← hfo]
    have hn : H h'.objs.size = none := I.hok.fresh hsz
    have ff : fo.isFreed = false := by rw [← hfo]; rfl
    refine h h'.objs.size cl _ _ (I.laid (a := h'.objs.size) (o := .frz fo (.own h'.objs.size)) (h' := h'.push fo) (t' := tk) (fun b u e => Heap.get?_push_of_some _ (hk b u e)) hsz ⟨Heap.get?_push_size _ ff, _, Heap.get?_push_size _ ff⟩) (zaU hn _) ⟨⟨_, c', ctv, oc, us, t, fo, zai, fd, ?_, e3, e4⟩, cl1, cl2, cl3⟩
    rw [zah (zar e2 hn)]
    exact e2
abbrev zj5 (X : Cx) (N : List Str) (scope : Scope) (cl : List (Str × Addr)) (q : Str) (f : Addr) (cd : Value) (A : Around) (s₀ : Shared) (H₀ : Hp) : Cx where
  prog := X.prog
  w := X.w
  K := X.K
  mg := X.mg
  base := X.base
  A := A.deeper (newEnv scope s₀.heap.objs.size mainGlobals cl (q ++ ".<locals>.") (some f) cd none builtinsNs)
  N := N
  s₀ := s₀
  H₀ := H₀
  env := newEnv scope s₀.heap.objs.size mainGlobals cl (q ++ ".<locals>.") (some f) cd none builtinsNs
  outer := X.stack
  stack := newEnv scope s₀.heap.objs.size mainGlobals cl (q ++ ".<locals>.") (some f) cd none builtinsNs :: X.stack
  ex := []
  fn := fun _ => false
  calm := true
  pn := []
  xe := fun _ _ => False
theorem zls {ar : Arguments} {body : Expr} {scope : Scope} {q : Str} {x : Str} {N : List Str} {js : List Nat} {f : Addr} {cl : List (Str × Addr)} {te : TE} {A : Around} {v : V} {u : Value} {Q : VK}
    (I : Inv X pins σ H s) (S : CompScope X scope x N js) (L : Lam X H q ar body scope f cl) (hA : A.frames = some X.stack) (hh : A.handled = none) (hdp : A.depth < recursionLimit) (co : scope.isCoroutine = false) (ge : scope.isGenerator = false)
    (hb : ∀ pm c ct u, bindArgs (PySem.W.kla_fn "<lambda>" q ar body scope cl pm c ct) ⟨[u], []⟩ = pure [(x, u)])
    (he : ∀ cd, PE (zj5 X N scope cl q f cd A s H) body te) (rv : RelV v u) (hq : te (some v :: caps σ js) H Q) : wpAny (model X.prog X.w) A (call (.ref f) [u]) (EP X pins σ Q) (fun _ _ => False) s := by
  with_unfolding_all
    obtain ⟨pm, c, ct, oc, us, t, o, e1, e2, e3, e4, e5⟩ := L.ex
    obtain ⟨g1, _⟩ := I.hok f _ e1
    obtain ⟨g2, _⟩ := I.hok c _ e3
    have lim : s.heap.NoLimit := I.nolimit
    refine wpAny_call (codeAny_mono (R := fun r s' => ∃ k, r = .ok (.ret k) ∧ CE X.stack X.prog X.w H s Q k s') ?_ fun r s' hr => ?_)
    · refine PySem.W.kla_callFunE hdp g1 e2 co ge rfl ⟨c, oc, us, t, rfl, g2, e4, e5⟩ ?_
      rw [hb]
      refine wpAny_pure (wpAny_newFunctionEnv S.nocell (fun y hy => ?_) (fun h₁ hns hsb => ?_) S.kind)
      · have hy' : y = (x, u) := by simpa using hy
        subst hy'
        exact S.own
      have old : ∀ b o, s.heap.get? b = some o → h₁.get? b = some o := fun b o e => hsb.extBut b o (Nat.ne_of_lt (Heap.lt_size e)) (Heap.get?_push_of_some _ e)
      refine ⟨lim.keeps old, ?_⟩
      have yok : (zj5 X N scope cl q f (.ref c) A s H).Ok :=
        { mod := I.ok.mod
          kind := S.kind
          glob := rfl
          blt := rfl
          above := Nat.le_refl _
          inj := fun y z c h1 h2 => I.ok.inj y z c (L.c1 y c h1) (L.c1 z c h2)
          has := fun y hy => by
            rcases hy with hy | hy
            · exact absurd rfl (S.nocell _ (PySem.mem_of_lookup hy))
            · exact L.c2 y (PySem.mem_of_lookup hy)
          cab := fun y c hf _ => by cases hf
          hd := fun _ => hh
          frames := Around.frames_deeper hA
          stk := .inr ⟨rfl, rfl⟩
          exf := fun b hb => by simp at hb
          bs := I.bs
          bsz := Nat.le_trans I.ok.bsz I.sz
          noex := fun b o e hb => by simp at hb
          exfs := fun b hb => by simp at hb
          funs := I.stack
          frf := I.stkFree }
      have I1 : Inv (zj5 X N scope cl q f (.ref c) A s H) [] (some v :: caps σ js) H { s with heap := h₁, toks := s.toks + [(x, u)].length } :=
        { ok := yok
          os := rfl
          bare := I.bare
          base := Un.kept old
          loc := by
            refine ⟨_, hns, fun i y v' h1 h2 h3 => ?_⟩
            cases i with
            | zero =>
              have ey : y = x := Option.some.inj (h1.symm.trans S.head)
              subst ey
              have ev : v' = v := by simpa using h2.symm
              subst ev
              exact ⟨u, rv, .inl ⟨S.own, by simp⟩⟩
            | succ k =>
              have h2' : (caps σ js)[k]? = some (some v') := by simpa using h2
              unfold caps at h2'
              rw [List.getElem?_map] at h2'
              cases ej : js[k]? with
              | none => rw [ej] at h2'; cases h2'
              | some j =>
                rw [ej] at h2'
                have e6 : (σ[j]?).join = some v' := Option.some.inj h2'
                have e7 : σ[j]? = some (some v') := by
                  cases eσ : σ[j]? with
                  | none => rw [eσ] at e6; cases e6
                  | some o => rw [eσ] at e6; exact congrArg some e6
                obtain ⟨n1, n2, n3, n4⟩ := S.cap k j y h1 ej
                obtain ⟨mX, _, lX⟩ := I.loc
                obtain ⟨u', ru, lk⟩ := lX j y v' n1 e7 n2
                refine ⟨u', ru, ?_⟩
                rcases lk with ⟨lk, _⟩ | ⟨_, d, ed, cell⟩
                · rw [n3] at lk; cases lk
                · obtain ⟨d', ed'⟩ := L.c2 y n4
                  have : d' = d := Option.some.inj ((L.c1 y d' ed').symm.trans ed)
                  subst this
                  obtain ⟨ob, ho, hd⟩ := cell
                  refine .inr ⟨?_, d', ed', ⟨ob, old _ _ ho, hd⟩⟩
                  have h3' : scope.names.lookup y = some .local ∨ scope.names.lookup y = some .cell ∨ scope.names.lookup y = some .free := h3
                  rcases h3' with z | z | z
                  · exact absurd n4 (S.apart y z)
                  · exact .inl z
                  · exact .inr z
          cell := fun y d e => by
            obtain ⟨v', ob, ho, hd⟩ := I.cell y d (L.c1 y d e)
            exact ⟨v', ob, old _ _ ho, hd⟩
          free := I.hok.fresh (Nat.le_refl _)
          freeC := fun y d e => I.freeC y d (L.c1 y d e)
          pin := fun p hp => by simp at hp
          hok := I.hok.kept old
          len := by show (some v :: caps σ js).length = N.length; rw [S.len]; simp [caps] }
      refine PySem.W.kla_codeExpr (wpAny_mono (he (.ref c) [] _ _ H Q I1 hq) (fun k s' hk => ?_) fun _ _ z => z.elim)
      obtain ⟨w, H', J, rk, qk⟩ := hk
      exact ⟨k, rfl, w, H', J.os, J.bare, J.base, J.hok, rk, qk⟩
    · obtain ⟨k, rfl, ce⟩ := hr
      exact I.after ce
end
end L2
set_option Elab.async false
set_option linter.all false
set_option maxRecDepth 100000
set_option maxHeartbeats 4000000
namespace L2
open PySem PySem.Spec PyProof.Rows PySem.W
theorem zf0 : bootBuiltins "sorted" = some (.builtin "sorted") := by decide +kernel
theorem Asks.wp {α : Type} {n : Nat} {lt : Nat → Nat → Bool} {cmp : Nat → Nat → (Bool → Shared → Prop) → Shared → Prop} {R : α → Prop} {Q : α → Shared → Prop} {s : Shared}
    (hc : ∀ i j C, i < n → j < n → C (lt i j) s → cmp i j C s) (hq : ∀ a, R a → Q a s) : ∀ (t : KasT α), Asks n lt t R → t.kasWp cmp Q s
  | .ret a, h => hq a h
  | .ask i j k, ⟨h1, h2, _, h4⟩ => hc i j _ h1 h2 (Asks.wp hc hq (k (lt i j)) h4)
section
variable {prog : Program} {w : World} {A : Around} {E : Value → Shared → Prop} {s : Shared} {Q : Bool → Shared → Prop}
theorem zhl : ∀ (ns ms : List Int) (xs ys : List Value) (i : Nat), ns.length = ms.length → Vals (ns.map V.int) xs → Vals (ms.map V.int) ys → Q (HT.lexLt ns ms) s → KatLex prog w A true false Q (xs.zip ys) i s
  | [], [], xs, ys, i, _, rx, ry, h => by
    cases rx
    cases ry
    exact kat_nil h
  | [], _ :: _, _, _, _, hl, _, _, _ => by simp at hl
  | _ :: _, [], _, _, _, hl, _, _, _ => by simp at hl
  | a :: ns, b :: ms, xs, ys, i, hl, rx, ry, h => by
    cases rx with
    | cons ra rx =>
      cases ry with
      | cons rb ry =>
        obtain ⟨t, rfl⟩ := ra
        obtain ⟨t', rfl⟩ := rb
        rw [HT.lexLt_cons] at h
        refine kat_cons (wpAny_eqBool_int (kat_go (fun e => ?_) fun e => ?_))
        · have ab : a = b := by simpa using e
          rw [if_pos ab] at h
          exact kat_yes (zhl ns ms _ _ (i + 1) (by simpa using hl) rx ry h)
        · have ab : a ≠ b := by simpa using e
          rw [if_neg ab] at h
          refine kat_no ?_
          cases i with
          | zero => exact oneLt_int h
          | succ i =>
            have e0 : (true && (i + 1) == 0) = false := by simp
            rw [e0]
            exact kat_one _ _ (lt_int h)
end
def zhm (H : Hp) (kf : Nat → List Int) (ks : List Value) : Prop := ∀ j, j < ks.length → ∃ p, ks[j]? = some (.ref p) ∧ H p = some (.tup ((kf j).map V.int))
section
variable {X : Cx} {pins : List (Addr × Obj)} {σ : St} {H : Hp} {s : Shared}
theorem ze8 (I : Inv X pins σ H s) {kf : Nat → List Int} (k1 : ∀ i, 0 < (kf i).length) : ∀ {ks : List Value} {m : Nat}, (∀ j, j < ks.length → ∃ p, ks[j]? = some (.ref p) ∧ H p = some (.tup ((kf (m + j)).map V.int))) →
    ∃ fs : List Value, fs.length = ks.length ∧ KatTups s.heap ks fs ∧ ∀ v ∈ fs, ∃ i t, v = .int i t
  | [], m, _ => ⟨[], rfl, KatTups.nil, fun v hv => by simp at hv⟩
  | v :: ks, m, h => by
    obtain ⟨p, h1, h2⟩ := h 0 (by simp)
    have ev : v = .ref p := by simpa using h1
    subst ev
    obtain ⟨fs, l1, l2, l3⟩ := ze8 I k1 (ks := ks) (m := m + 1) fun j hj => by
      obtain ⟨p, h1, h2⟩ := h (j + 1) (by simpa using hj)
      refine ⟨p, by simpa using h1, ?_⟩
      rw [Nat.add_assoc, Nat.add_comm 1 j]
      exact h2
    obtain ⟨_, its, r, o, e, c1, c2⟩ := I.hok p _ h2
    rw [Nat.add_zero] at r
    cases ek : kf m with
    | nil =>
      have := k1 m
      rw [ek] at this
      simp at this
    | cons a as =>
      rw [ek] at r
      cases r with
      | cons ra rest =>
        obtain ⟨t, rfl⟩ := ra
        obtain ⟨n, c2⟩ := c2
        refine ⟨.int a t :: fs, by simp [l1], KatTups.cons e c1 c2 (by simp) l2, fun v hv => ?_⟩
        rcases List.mem_cons.mp hv with z | z
        · exact ⟨a, t, z⟩
        · exact l3 v z
theorem zf1 (I : Inv X pins σ H s) {A : Around} {E : Value → Shared → Prop} {kf : Nat → List Int} (k1 : ∀ i, 0 < (kf i).length) {ks : List Value} (h : zhm H kf ks) (h2 : 2 ≤ ks.length) {Q : SortKind → Shared → Prop} (q : Q (tuples' true) s) :
    wpAny (model X.prog X.w) A (keyKind' ks.toArray) Q E s := by
  obtain ⟨fs, l1, l2, l3⟩ := ze8 I k1 (ks := ks) (m := 0) (fun j hj => by rw [Nat.zero_add]; exact h j hj)
  refine kat_kind (T := .type "int") l2 (by omega) (fun v hv => ?_) (by decide) q
  obtain ⟨i, t, rfl⟩ := l3 v hv
  exact Looks.of_pure rfl
theorem zhn (I : Inv X pins σ H s) {A : Around} {kf : Nat → List Int} {m : Nat} (k1 : ∀ i, (kf i).length = m) {ks : List Value} (h : zhm H kf ks) {i j : Nat} (hi : i < ks.length) (hj : j < ks.length) {C : Bool → Shared → Prop} (q : C (HT.lexLt (kf i) (kf j)) s) :
    kas_ask X.prog X.w A (tuples' true) ks i j C s := by
  obtain ⟨p, e1, e2⟩ := h i hi
  obtain ⟨p', e1', e2'⟩ := h j hj
  obtain ⟨_, its, r, o, g, c1, n, c2⟩ := I.hok p _ e2
  obtain ⟨_, its', r', o', g', c1', n', c2'⟩ := I.hok p' _ e2'
  unfold kas_ask
  rw [List.getD_eq_getElem?_getD, List.getD_eq_getElem?_getD, e1, e1']
  have l1 := r.length
  have l2 := r'.length
  rw [List.length_map, k1] at l1 l2
  refine kat_lt g c2 g' c2' ?_
  have z : decide (its.toArray.size < its'.toArray.size) = false := by
    rw [decide_eq_false_iff_not, List.size_toArray, List.size_toArray]
    omega
  rw [z]
  exact zhl _ _ _ _ 0 (by rw [k1, k1]) r r' q
theorem zey {xs : List V} {us : List Value} (r : Vals xs us) : ∀ (p : List Nat), (∀ i ∈ p, i < xs.length) → Vals (p.map fun i => xs.getD i .non) (p.map fun i => us.getD i Value.none)
  | [], _ => .nil
  | i :: p, h => by
    have hi := h i List.mem_cons_self
    have e : xs[i]? = some (xs.getD i .non) := by rw [List.getD_eq_getElem?_getD, List.getElem?_eq_getElem hi]; rfl
    obtain ⟨u, hu, ru⟩ := r.get e
    refine .cons ?_ (zey r p fun j hj => h j (List.mem_cons_of_mem _ hj))
    show RelV (xs.getD i .non) (us.getD i Value.none)
    rw [List.getD_eq_getElem?_getD (l := us), hu]
    exact ru
theorem zkE (us : List Value) : (List.range us.length).map (fun i => us.getD i Value.none) = us := by
  apply List.ext_getElem
  · simp
  · intro i h1 h2
    simp [h2]
theorem zhU {l f : Addr} {xs : List V} {kf : Nat → List Int} {m : Nat} {Q : VK} (I : Inv X pins σ H s) (hl : SqL X.K H l xs) (hn : xs.length < 64) (k1 : ∀ i, (kf i).length = m) (m1 : 0 < m) (T : Tot xs.length (fun i j => HT.lexLt (kf i) (kf j)))
    (turn : ∀ i v, xs[i]? = some v → ∀ (pins' : List (Addr × Obj)) (s' : Shared) (H' : Hp) (u : Value), Inv X pins' σ H' s' → Same H H' → RelV v u → wpAny (model X.prog X.w) X.A.in1.in1 (call (.ref f) [u]) (EP X pins' σ fun k H'' => Same H' H'' ∧ ∃ p, k = .ref p ∧ H'' p = some (.tup ((kf i).map V.int))) (fun _ _ => False) s')
    (h : ∀ D H' (p : List Nat), Same H H' → H D = none → H' D = some (.lst (p.map fun i => xs.getD i .non)) → p.Perm (List.range xs.length) → (∀ i j, i < j → j < p.length → HT.lexLt (kf (p.getD i 0)) (kf (p.getD j 0)) = true) → Q (.ref D) H') :
    wpAny (model X.prog X.w) X.A (call (.builtin "sorted") [.ref l] [(Str.ofString "key", .ref f)]) (EP X pins σ Q) X.xe s := by
  obtain ⟨its, rv, pl, hz⟩ := I.list hl
  have il : its.length = xs.length := rv.length.symm
  have sl : (100 : Nat) ≤ sizeLine := by decide
  refine call_function_entry_kw kind_sorted plain_sorted entry_sorted (ksk_s1 _ _) ?_
  unfold Builtin.«sorted»
  refine wpAny_bind (m := checkCount "sorted" 1 1 _) (wpAny_pure ?_)
  refine wpAny_bind (collect_list pl.isList ?_ (by omega))
  refine wpAny_bind (wpAny_newList ?_ (by omega))
  have kA : ∀ b o, s.heap.get? b = some o → ((s.heap.push (seqObj "list" #[] 0)).update s.heap.objs.size (Obj.mapSeq (· ++ its.toArray))).get? b = some o := fun b o e => by
    rw [Heap.get?_update_ne _ _ _ _ (Nat.ne_of_lt (Heap.lt_size e))]
    exact Heap.get?_push_of_some _ e
  have sA : s.heap.objs.size ≤ ((s.heap.push (seqObj "list" #[] 0)).update s.heap.objs.size (Obj.mapSeq (· ++ its.toArray))).objs.size := by
    rw [Heap.size_update, size_push']
    exact Nat.le_succ _
  dsimp only
  generalize ((s.heap.push (seqObj "list" #[] 0)).update s.heap.objs.size (Obj.mapSeq (· ++ its.toArray))) = A1 at kA sA ⊢
  have hD : (A1.push (seqObj "list" its.toArray 0)).get? A1.objs.size = some (seqObj "list" its.toArray 0) := Heap.get?_push_size _ rfl
  generalize eD : A1.objs.size = D at hD sA ⊢
  have kB : ∀ b o, s.heap.get? b = some o → (A1.push (seqObj "list" its.toArray 0)).get? b = some o := fun b o e => Heap.get?_push_of_some _ (kA b o e)
  have dB : D < (A1.push (seqObj "list" its.toArray 0)).objs.size := Heap.lt_size hD
  generalize A1.push (seqObj "list" its.toArray 0) = A2 at hD kB dB ⊢
  refine wpAny_bind (wpAny_holding (wpAny_call_entry_kw slot_list_sort ⟨_, hD, rfl⟩ entry_list_sort ?body (ksk_l1 _ _)))
  case body =>
    show wpAny _ _ (Builtin.«list.sort» ⟨[.ref D], [(Str.ofString "key", .ref f)]⟩) _ _ _
    rw [ksk_t1]
    unfold ksk_tree
    refine wpAny_bind (listItems_at hD rfl ?_)
    refine wpAny_bind (listUpdate_at hD rfl ?_ (by rw [List.size_toArray]; omega) (Nat.zero_le _))
    obtain ⟨e1, hD1⟩ : ∃ e1, (A2.update D (Obj.mapSeq fun _ => (#[] : Array Value))).get? D = some (seqObj "list" #[] e1) := ⟨_, get?_update_seq hD fun _ => #[]⟩
    have kC : ∀ b o, s.heap.get? b = some o → (A2.update D (Obj.mapSeq fun _ => (#[] : Array Value))).get? b = some o := fun b o e => by
      rw [Heap.get?_update_ne _ _ _ _ (Nat.ne_of_lt (Nat.lt_of_lt_of_le (Heap.lt_size e) sA))]
      exact kB b o e
    dsimp only
    refine wpAny_bind (seqEpoch_at hD1 rfl ?_)
    refine wpAny_bind (wpAny_newTuple ?_ (by show its.length ≤ sizeLine; omega))
    refine wpAny_bind (wpAny_newList ?_ (Nat.zero_le _))
    refine wpAny_holding ?_
    dsimp only
    generalize A2.update D (Obj.mapSeq fun _ => (#[] : Array Value)) = A3 at hD1 kC ⊢
    have hD2 := Heap.get?_push_of_some (seqObj "tuple" its.toArray 0) hD1
    have kE : ∀ b o, s.heap.get? b = some o → (A3.push (seqObj "tuple" its.toArray 0)).get? b = some o := fun b o e => Heap.get?_push_of_some _ (kC b o e)
    have sE : D < (A3.push (seqObj "tuple" its.toArray 0)).objs.size := Heap.lt_size hD2
    show wpAny _ _ (ksk_rest D (.ref f) false its.toArray e1 (.ref (A3.push (seqObj "tuple" its.toArray 0)).objs.size)) _ _ { s with heap := (A3.push (seqObj "tuple" its.toArray 0)).push (seqObj "list" #[] 0) }
    generalize A3.push (seqObj "tuple" its.toArray 0) = A4 at hD2 kE sE ⊢
    have hk0 : (A4.push (seqObj "list" #[] 0)).get? A4.objs.size = some (seqObj "list" #[] 0) := Heap.get?_push_size _ rfl
    have hD3 := Heap.get?_push_of_some (seqObj "list" #[] 0) hD2
    have kF : ∀ b o, s.heap.get? b = some o → (A4.push (seqObj "list" #[] 0)).get? b = some o := fun b o e => Heap.get?_push_of_some _ (kE b o e)
    generalize A4.push (seqObj "list" #[] 0) = A5 at hk0 hD3 kF ⊢
    generalize A4.objs.size = kS at hk0 sE ⊢
    have ne : D ≠ kS := Nat.ne_of_lt sE
    have sK : s.heap.objs.size ≤ kS := Nat.le_trans sA (Nat.le_of_lt sE)
    have nK : H kS = none := I.hok.fresh sK
    have nD : H D = none := I.hok.fresh sA
    have fK := I.fpOk (H' := H) sK nK
    have fD := I.fpOk (H' := H) sA nD
    have I0 : Inv X ((kS, seqObj "list" (List.toArray []) 0) :: (D, seqObj "list" #[] e1) :: pins) σ H { s with heap := A5 } := (I.kept (t' := s.toks) (h' := A5) kF).pins_of fun p hp => by
      rcases List.mem_cons.mp hp with rfl | hp
      · exact ⟨hk0, nK, fK.2.1, fK.2.2.1, fun v z => by cases z⟩
      · rcases List.mem_cons.mp hp with rfl | hp
        · exact ⟨hD3, nD, fD.2.1, fD.2.2.1, fun v z => by cases z⟩
        · obtain ⟨g1, g2⟩ := I.pin p (List.mem_append_right _ hp)
          exact ⟨kF _ _ g1, g2⟩
    unfold ksk_rest
    refine wpAny_bind (wpAny_rule ?_)
    rw [← Array.forIn_toList]
    refine wpAny_bind (ksk_fold (fun i s' => ∃ e ks H', ks.length = i ∧ Inv X ((kS, seqObj "list" (List.toArray ks) e) :: (D, seqObj "list" #[] e1) :: pins) σ H' s' ∧ Same H H' ∧ zhm H' kf ks) its 0 _ ⟨0, [], H, rfl, I0, Same.refl _, fun j hj => by simp at hj⟩ (fun j x s' hx hI => ?step) fun s' hI => ?done)
    case step =>
      obtain ⟨e, ks, H', lk, I', sm, kin⟩ := hI
      have hjx : j < xs.length := by
        have := (List.getElem?_eq_some_iff.mp hx).1
        omega
      obtain ⟨v, hv, rvx⟩ : ∃ v, xs[j]? = some v ∧ RelV v x := by
        obtain ⟨u, hu, ru⟩ := rv.get (List.getElem?_eq_getElem hjx)
        rw [hx] at hu
        cases hu
        exact ⟨_, List.getElem?_eq_getElem hjx, ru⟩
      refine wpAny_bind (wpAny_attempt (wpAny_mono (turn j v hv _ s' H' x I' sm rvx) (fun k s'' hk => ?_) fun _ _ z => z.elim))
      obtain ⟨w, H'', I'', rw', sm', p, rfl, hp⟩ := hk
      obtain rfl : k = .ref p := rw'
      obtain ⟨hkS, nkS, _, _, _⟩ := I''.pin (kS, seqObj "list" (List.toArray ks) e) (List.mem_append_right _ List.mem_cons_self)
      dsimp only
      refine wpAny_bind (listUpdate_at hkS rfl ?_ (by rw [List.size_toArray]; omega) (by rw [Array.size_push, List.size_toArray]; omega))
      obtain ⟨c2, hc2⟩ : ∃ c2, (s''.heap.update kS (Obj.mapSeq (·.push (.ref p)))).get? kS = some (seqObj "list" (List.toArray (ks ++ [.ref p])) c2) := ⟨_, by
        have g := get?_update_seq hkS (·.push (.ref p))
        rw [show (List.toArray ks).push (.ref p) = List.toArray (ks ++ [.ref p]) by simp] at g
        exact g⟩
      have sb := Heap.SameBut.update s''.heap kS (Obj.mapSeq (·.push (.ref p)))
      have J : Inv X ((D, seqObj "list" #[] e1) :: pins) σ H'' { s'' with heap := s''.heap.update kS (Obj.mapSeq (·.push (.ref p))), toks := s''.toks } :=
        (I''.pins_of (pins' := (D, seqObj "list" #[] e1) :: pins) fun q hq => I''.pin q (List.mem_append_right _ (List.mem_cons_of_mem _ hq))).turned (fun b o n g => (sb.2 b n).trans g) nkS fK.2.1 fK.2.2.2.1 fK.2.2.2.2.1 fun q hq => by
          rcases List.mem_append.mp hq with hq | hq
          · exact fK.2.2.2.2.2 q (List.mem_append_left _ hq)
          · rcases List.mem_cons.mp hq with rfl | hq
            · exact ne
            · exact fK.2.2.2.2.2 q (List.mem_append_right _ hq)
      refine wpAny_pure ⟨rfl, c2, ks ++ [.ref p], H'', by simp [lk], J.pins_of fun q hq => ?_, sm.trans sm', fun i hi => ?_⟩
      · rcases List.mem_cons.mp hq with rfl | hq
        · exact ⟨hc2, nkS, fK.2.1, fK.2.2.1, fun v z => by cases z⟩
        · exact J.pin q (List.mem_append_right _ hq)
      · by_cases z : i < ks.length
        · obtain ⟨p', g1, g2⟩ := kin i z
          exact ⟨p', by rw [List.getElem?_append_left z]; exact g1, sm' _ _ g2⟩
        · have ei : i = ks.length := by simp at hi; omega
          refine ⟨p, by rw [ei]; simp, ?_⟩
          rw [ei, lk, Nat.zero_add]
          exact hp
    case done =>
      obtain ⟨e, ks, H', lk, I', sm, kin⟩ := hI
      rw [Nat.zero_add] at lk
      obtain ⟨hkS, nkS, _, _, _⟩ := I'.pin (kS, seqObj "list" (List.toArray ks) e) (List.mem_append_right _ List.mem_cons_self)
      obtain ⟨hDp, nDp, _, _, _⟩ := I'.pin (D, seqObj "list" #[] e1) (List.mem_append_right _ (List.mem_cons_of_mem _ List.mem_cons_self))
      refine wpAny_bind (listItems_at hkS rfl ?_)
      have tail : ∀ (st : SortSt) (p : List Nat), failedOf st = none → (arrOf st).map (·.2) = List.toArray (p.map fun i => its.getD i Value.none) → p.Perm (List.range xs.length) → (∀ i j, i < j → j < p.length → HT.lexLt (kf (p.getD i 0)) (kf (p.getD j 0)) = true) →
          wpAny (model X.prog X.w) X.A.in1.in1 (ksk_tail D false e1 (.ref kS) st) (fun fin s'' => ∃ v, fin = .done (.ret v) ∧ wpAny (model X.prog X.w) X.A.in1 (ret (.ref D)) (fun fin s'' => ∃ v, fin = .done (.ret v) ∧ EP X pins σ Q v s'') X.xe s'') X.xe s' := by
        intro st p hf hout hp hs
        have pl2 : p.length = xs.length := by simpa using hp.length_eq
        unfold ksk_tail
        dsimp only
        rw [hout]
        refine wpAny_bind (listUpdate_at hkS rfl ?_ (by rw [List.size_toArray]; omega) (Nat.zero_le _))
        refine wpAny_bind (wpAny_letGo ?_)
        have sb := Heap.SameBut.update s'.heap kS (Obj.mapSeq fun _ => (#[] : Array Value))
        have hD' := (sb.2 D ne).trans hDp
        refine wpAny_bind (seqEpoch_at hD' rfl ?_)
        refine wpAny_bind (listUpdate_at hD' rfl ?_ (Nat.zero_le _) (by simp; omega))
        rw [hf]
        simp only [bne_self_eq_false, Bool.false_eq_true, if_false]
        obtain ⟨c2, hc2⟩ : ∃ c2, ((s'.heap.update kS (Obj.mapSeq fun _ => (#[] : Array Value))).update D (Obj.mapSeq fun _ => List.toArray (p.map fun i => its.getD i Value.none))).get? D = some (seqObj "list" (List.toArray (p.map fun i => its.getD i Value.none)) c2) := ⟨_, get?_update_seq hD' fun _ => List.toArray (p.map fun i => its.getD i Value.none)⟩
        have sb2 := Heap.SameBut.update (s'.heap.update kS (Obj.mapSeq fun _ => (#[] : Array Value))) D (Obj.mapSeq fun _ => List.toArray (p.map fun i => its.getD i Value.none))
        have kp : ∀ b o, b ≠ kS → b ≠ D → s'.heap.get? b = some o → ((s'.heap.update kS (Obj.mapSeq fun _ => (#[] : Array Value))).update D (Obj.mapSeq fun _ => List.toArray (p.map fun i => its.getD i Value.none))).get? b = some o := fun b o n1 n2 g => (sb2.2 b n2).trans ((sb.2 b n1).trans g)
        have trk : ∀ b u, H' b = some u → b ≠ kS ∧ b ≠ D := fun b u g => ⟨(fun z => by rw [z, nkS] at g; cases g), fun z => by rw [z, nDp] at g; cases g⟩
        refine wpAny_pure ⟨_, rfl, wpAny_pure ⟨_, rfl, .ref D, upd H' D (.lst (p.map fun i => xs.getD i .non)), ?_, rfl, h D _ p (fun b u g => ?_) nD zai hp hs⟩⟩
        · refine (I'.pins_of (pins' := pins) fun q hq => I'.pin q (List.mem_append_right _ (List.mem_cons_of_mem _ (List.mem_cons_of_mem _ hq)))).step (g' := s'.gens) (d' := s'.drawn) (t' := s'.toks) (ch := [kS, D]) (fun b hb => ?_) (fun b o _ _ hc g _ => kp b o (fun z => hc (by simp [z])) (fun z => hc (by simp [z])) g)
            (fun b o _ _ hc g _ => ⟨o.slots, kp b o (fun z => hc (by simp [z])) (fun z => hc (by simp [z])) g⟩) (fun b o hc _ n => ?_) (fun b o hc g => ⟨o, kp b o (fun z => hc (by simp [z])) (fun z => hc (by simp [z])) g⟩) (fun b ys g => ?_) (fun b o u g => ?_) (fun b lp lq g => ?_) (fun mm hm => ?_) (fun b u g => ?_) I'.bare
          · rcases List.mem_cons.mp hb with rfl | hb
            · exact ⟨fK.2.2.2.1, fK.2.1, fK.2.2.2.2.1, fK.2.2.2.2.2⟩
            · have : b = D := by simpa using hb
              subst this
              exact ⟨fD.2.2.2.1, fD.2.1, fD.2.2.2.2.1, fD.2.2.2.2.2⟩
          · rw [zah (fun z => hc (by simp [z]))]
            exact n
          · rw [zah (trk b _ g).2]
            exact g
          · rw [zah (trk b _ g).2]
            exact g
          · rw [zah (trk b _ g).2]
            exact g
          · obtain ⟨o, es, ep, g, r⟩ := hm
            exact ⟨o, es, ep, kp _ o (Ne.symm fK.2.1) (Ne.symm fD.2.1) g, r⟩
          · by_cases z : b = D
            · subst z
              rw [zai] at g
              cases g
              refine ⟨by rw [List.length_map, pl2]; omega, _, c2, zey rv p fun i hi => List.mem_range.mp (hp.mem_iff.mp hi), hc2⟩
            · rw [zah z] at g
              refine (I'.hok b u g).stay (fun d v hd q => kp d v ?_ ?_ q) (fun d q => ?_) (fun d ys q => ?_) fun d ob ys q => ?_
              · rcases hd with y | y
                · rw [y]; exact (trk b u g).1
                · exact (trk d _ y).1
              · rcases hd with y | y
                · rw [y]; exact (trk b u g).2
                · exact (trk d _ y).2
              · rw [zah (trk d _ q).2]
                exact q
              · rw [zah (trk d _ q).2]
                exact q
              · rw [zah (trk d _ q).2]
                exact q
        · rw [zah (trk b _ (sm b u g)).2]
          exact sm b u g
      unfold ksk_end
      dsimp only
      simp only [Bool.false_eq_true, if_false]
      by_cases n2 : its.toArray.size < 2
      · rw [if_pos n2, if_pos n2]
        refine wpAny_bind (wpAny_pure ?_)
        rw [StateT.run_pure]
        refine wpAny_bind (wpAny_pure ?_)
        dsimp only
        refine tail _ (List.range xs.length) rfl ?_ (List.Perm.refl _) fun i j ij jl => ?_
        · show ((List.toArray ks).zip its.toArray).map (·.2) = _
          rw [← il, zkE]
          apply Array.toList_inj.mp
          rw [Array.toList_map, ksk_zip]
          exact List.map_snd_zip (by simp; omega)
        · rw [List.size_toArray] at n2
          rw [List.length_range] at jl
          omega
      · rw [if_neg n2, if_neg n2]
        rw [List.size_toArray] at n2
        refine wpAny_bind (zf1 I' (fun i => by rw [k1]; exact m1) kin (by omega) ?_)
        refine wpAny_bind (wpAny_mono (kat_run (vs := its) (Q := fun st' s'' => ∃ p : Array Nat, arrOf st' = p.map (kas_item ((List.toArray ks).zip its.toArray)) ∧ failedOf st' = none ∧ s'' = s' ∧ Pm xs.length p ∧ Sd (fun i j => HT.lexLt (kf i) (kf j)) p xs.length) (G := fun p s'' => s'' = s' ∧ Pm xs.length p ∧ Sd (fun i j => HT.lexLt (kf i) (kf j)) p xs.length)
          lk (by omega) (by omega) (fun p st' s'' _ a2 a3 a4 => ⟨p, a2, a3, a4⟩) ?_) ?_ fun _ _ z => z)
        · rw [il]
          refine Asks.wp (n := xs.length) (lt := fun i j => HT.lexLt (kf i) (kf j)) (R := fun p => Pm xs.length p ∧ Sd (fun i j => HT.lexLt (kf i) (kf j)) p xs.length) (fun i j C hi hj hC => ?_) (fun p hp => ⟨rfl, hp⟩) _ (zi7 T (by omega))
          exact zhn I' k1 kin (by omega) (by omega) hC
        · rintro ⟨⟨⟩, st'⟩ s'' ⟨p, har, hf, rfl, P, S⟩
          refine tail st' p.toList hf (kat_snds lk har) P.pm fun i j ij jl => ?_
          have e2 : ∀ k, p.toList.getD k 0 = p.getD k 0 := fun k => by rw [List.getD_eq_getElem?_getD, atq]; simp
          rw [e2, e2]
          exact S i j ij (by rw [Array.length_toList, P.sz] at jl; exact jl)
end
end L2
set_option Elab.async false
set_option linter.all false
set_option maxRecDepth 100000
set_option maxHeartbeats 4000000
namespace L2
open PySem PySem.Spec PyProof.Rows PySem.W
def zme (K : Frag) (T : Addr) (lp : Pos) (q : Str) (t : TA) (js : List Nat) (te : TE) : TE := fun σ H Q => t σ H fun vs H1 => ∃ (l : Addr) (xs : List V) (kf : Nat → List Int) (m : Nat), vs = [.ref l] ∧ SqL K H1 l xs ∧ xs.length < 64 ∧ (∀ i, (kf i).length = m) ∧ 0 < m ∧
  Tot xs.length (fun i j => HT.lexLt (kf i) (kf j)) ∧ H1 T = some (.tbl lp q) ∧ ∀ H2, Same H1 H2 →
    (∀ i v, xs[i]? = some v → ∀ H3, Same H2 H3 → te (some v :: caps σ js) H3 fun k H4 => Same H3 H4 ∧ ∃ p, k = .ref p ∧ H4 p = some (.tup ((kf i).map V.int))) ∧
    ∀ D H' (p : List Nat), Same H2 H' → H2 D = none → H' D = some (.lst (p.map fun i => xs.getD i .non)) → p.Perm (List.range xs.length) → (∀ i j, i < j → j < p.length → HT.lexLt (kf (p.getD i 0)) (kf (p.getD j 0)) = true) → Q (.ref D) H'
theorem zhV {X : Cx} {sp pos kp lp : Pos} {e : Expr} {ar : Arguments} {body : Expr} {scope : Scope} {q x : Str} {N : List Str} {js : List Nat} {T : Addr} {t : TA} {te : TE}
    (S : CompScope X scope x N js) (D : Site X.K X.mg X.base X.env.code T) (hq : X.env.qual ++ "<lambda>" = q) (hdp : X.A.depth < recursionLimit) (hc : X.calm = true) (hg : Gl X "sorted") (hm : X.mg "sorted" = none) (ha : PA X [e] t)
    (he : ∀ cl f cd s H, PE (zj5 X N scope cl q f cd X.A.in1.in1 s H) body te)
    (hd : defaultsOf ar X.env = ([], []) := by rfl) (co : scope.isCoroutine = false := by rfl) (ge : scope.isGenerator = false := by rfl)
    (hb : ∀ cl pm c ct u, bindArgs (kla_fn "<lambda>" q ar body scope cl pm c ct) ⟨[u], []⟩ = pure [(x, u)] := by intro _ _ _ _ _; rfl)
    (hst : backTo pos (starEach [e] X.env) = (false, eval e X.env) :: backTo pos (starEach [] X.env) := by rfl) :
    PE X (.Call (.Name "sorted" sp) [e] [⟨some "key", .Lambda ar body scope lp, kp⟩] pos) (zme X.K T lp q t js te) := by
  with_unfolding_all
    intro pins s σ H Q I h
    refine wpAny_Call_Name_kw (zd2 I hg hm zf0 ?_)
    refine callWith_kw (thn (ha pos pins s σ H _ I h) fun us s1 ⟨vs, H1, I1, r, q1⟩ => ?_) hst (by rw [hst]; rfl) rfl rfl
    obtain ⟨l, xs, kf, m, rfl, hl, hn, k1, m1, Tt, hT, more⟩ := q1
    obtain ⟨u, rfl, ru⟩ := zfi r
    cases ru
    refine kws_cons (zj4 I1 S D hT hq hd fun f cl s2 H2 I2 sm L => kws_nil ?_)
    obtain ⟨turn, fin⟩ := more H2 sm
    have hl2 : SqL X.K H2 l xs := sm.seq hl
    refine zhU (f := f) I2 hl2 hn k1 m1 Tt (fun i v hv pins' s' H' u I' sm' rv => ?_) fun D' H' p a1 a2 a3 a4 a5 => fin D' H' p a1 a2 a3 a4 a5
    exact zls (A := X.A.in1.in1) I' S (L.same sm') I'.ok.frames (I'.ok.hd hc) hdp co ge (hb cl) (fun cd => he cl f cd s' H') rv (turn i v hv H' sm')
structure FunC (K : Frag) (x qual : Str) (st : Stmt) (f : Addr) (fd : FuncData) (cv : Value) : Prop where
  ex : ∃ (oc : Value) (od : Option Addr) (kV doc pm : Value) (an : Option Addr) (ct : Value) (osl : Array (Option Value)),
    fd = fnOf x qual (zan st) (zaj st) (zad st) .none kV doc pm an cv ct ∧ K.lookup f = some ⟨oc, od, .func fd, osl⟩ ∧ codeIn K cv qual = true
theorem FunC.ok {P : Program} {w : World} {K : Frag} {mg : Str → Option Value} {base : Heap} {x qual : Str} {st : Stmt} {f : Addr} {fd : FuncData} {cv : Value} {N ps : List Str} {k : Nat} {sp : Sp} (F : FunC K x qual st f fd cv) (S : FnScope N ps (zad st)) (len : ∀ vs H Q E, sp vs H Q E → vs.length = ps.length)
    (hbody : ∀ (A : Around) (outer : List Env) (s : Shared) (H : Hp) (vs : List V) (Q : VK) (E : XK), Room k (A.deeper (envOfC qual (zad st) s.heap.objs.size f cv)) → sp vs H Q E →
      ∃ t, PSs (cxOf CX0 P w K mg base N qual (zad st) f cv A outer s H E).nox (zaj st) t ∧ t { nx := fun _ H' => Q .non H', rt := Q } (zeo N vs) H) : FnOk P w K mg base CX0 (k + 1) f fd ps sp := by
  obtain ⟨oc, od, kV, doc, pm, an, ct, osl, rfl, lk, hcd⟩ := F.ex
  refine zjJ lk hcd S len fun A outer s H vs Q E hr hsp => ?_
  obtain ⟨t, h, q⟩ := hbody A outer s H vs Q E hr hsp
  exact ⟨t, h.nox, q⟩
theorem zlt {K : Frag} {x qual : Str} {st : Stmt} {f : Addr} {oc : Value} {od an : Option Addr} {osl : Array (Option Value)} {kV doc pm cdv ct : Value} (l : K.lookup f = some ⟨oc, od, .func (fnOf x qual (zan st) (zaj st) (zad st) .none kV doc pm an cdv ct), osl⟩)
    (c : codeIn K cdv qual = true) : FunC K x qual st f (fnOf x qual (zan st) (zaj st) (zad st) .none kV doc pm an cdv ct) cdv := ⟨⟨oc, od, kV, doc, pm, an, ct, osl, rfl, l, c⟩⟩
structure DfnC (K : Frag) (mg : Str → Option Value) (x : Str) (st : Stmt) (ps : List Str) (f : Addr) (fd : FuncData) (cv : Value) : Prop where
  F : FunC K x x st f fd cv
  kp : keepIn K (.ref f) = true
  b : zb6 K fd ps []
  m : mg x = some (.ref f)
theorem DfnC.cal {P : Program} {w : World} {K : Frag} {mg : Str → Option Value} {base : Heap} {x : Str} {st : Stmt} {ps : List Str} {f : Addr} {fd : FuncData} {cv : Value} {k : Nat} {sp : Sp}
    (D : DfnC K mg x st ps f fd cv) (G : FnOk P w K mg base CX0 k f fd ps sp) : Cal P w K mg base x k ps sp := ⟨⟨f, fd, G, D.b, D.m, D.kp⟩⟩
def zez (K : Frag) : Bool := K.all fun p => match p.2.cls, p.2.data with | .none, .fields _ => false | _, _ => true
theorem ze9 : ∀ {K : Frag}, zez K = true → ∀ {b : Addr} {vs : Array Value}, K.lookup b ≠ some { cls := .none, data := .fields vs }
  | [], _, b, vs, e => by cases e
  | (a, o) :: K, h, b, vs, e => by
    unfold zez at h
    rw [List.all_cons, Bool.and_eq_true] at h
    rw [List.lookup_cons] at e
    cases z : b == a with
    | true =>
      rw [z] at e
      cases e
      exact absurd h.1 (by simp)
    | false =>
      rw [z] at e
      exact ze9 (K := K) h.2 e
theorem zi8 {P : Program} {w : World} {K : Frag} {mg mb : Str → Option Value} {k : Nat} {fa a T : Addr} {fd : FuncData} {x : Str} {lp : Pos} {q : Str} {sp : Sp} {s₁ : Shared} {vs : List Value} {ns : List Int} {cv : Value}
    (KX : K.In s₁.heap) (kt : zez K = true) (hns : s₁.heap.Ns mainGlobals mg) (hb : s₁.heap.Ns builtinsNs mb) (hbb : ∀ x : Str, x ≠ "__name__" → mb x = bootBuiltins x) (hlim : s₁.heap.NoLimit) (hg : s₁.gens = #[])
    (ha : s₁.heap.get? a = some { cls := .type "list", data := .seq vs.toArray }) (hi : IntsAre vs ns) (hl : ns.length ≤ sizeLine) (hr : Room k callerA)
    (hT : s₁.heap.get? T = some (tabObj #[])) (hct : isCodeTable s₁.heap T) (hs : ∀ h : Heap, (∀ b o, s₁.heap.get? b = some o → b ≠ T → b ≠ a → h.get? b = some o) → Site K mg h cv T)
    (F : ∀ base : Heap, K.In base → base.Ns mainGlobals mg → Site K mg base cv T → FnOk P w K mg base CX0 k fa fd [x] sp) (hbind : ∀ (s : Shared) (u : Value), BindsTo s fd ⟨[u], []⟩ [(x, u)])
    (hsp : ∀ H : Hp, H T = some (.tbl lp q) → SqL K H a (ns.map V.int) → sp [.ref a] H (fun v _ => v = .bl true) fun _ _ _ => False) :
    codeAny (model P w) callerA (.call (.ref fa) ⟨[.ref a], []⟩) (fun r s' => r = .ok (.ret (.bool true)) ∧ OldK s₁.heap s'.heap ∧ s'.os = s₁.os ∧ AllBare s'.gens) s₁ := by
  have rv := zfQ hi
  have lenV := hi.length
  have aT : a ≠ T := fun z => by rw [z, hT] at ha; cases ha
  have core : ∀ H : Hp, H T = some (.tbl lp q) → SqL K H a (ns.map V.int) → (∀ b u, H b = some u → b = T ∨ (b = a ∧ u = .frz { cls := .type "list", data := .seq vs.toArray } (.lst (ns.map V.int)))) → (H a ≠ none → K.lookup a = none) →
      codeAny (model P w) callerA (.call (.ref fa) ⟨[.ref a], []⟩) (fun r s' => r = .ok (.ret (.bool true)) ∧ OldK s₁.heap s'.heap ∧ s'.os = s₁.os ∧ AllBare s'.gens) s₁ := by
    intro H hHT hS hO hK
    have hok : HOk P w H s₁.heap := fun b u e => by
      rcases hO b u e with z | ⟨z, rfl⟩
      · subst z
        rw [hHT] at e
        cases e
        exact ⟨#[], hT, trivial, .inl rfl⟩
      · subst z
        exact ⟨ha, by rw [List.length_map]; exact hl, vs, _, rv, ha⟩
    have base_of : ∀ {b : Addr} {o : Obj}, s₁.heap.get? b = some o → H b = none → (hidT s₁.heap H).get? b = some o := fun e n => zjC e n
    have no : ∀ b, b ≠ T → b ≠ a → H b = none := fun b n1 n2 => by
      cases z : H b with
      | none => rfl
      | some u =>
        rcases hO b u z with y | y
        · exact absurd y n1
        · exact absurd y.1 n2
    have noA : ∀ {b : Addr} {o : Obj} {es : Array DictEntry} {ep : Nat}, s₁.heap.get? b = some o → o.data = .dict es ep → H b = none := fun {b o es ep} e d => by
      refine no b (fun z => ?_) fun z => ?_
      · rw [z, hT] at e
        cases e
        cases d
      · rw [z, ha] at e
        cases e
        cases d
    have nsK : ∀ {b : Addr} {m : Str → Option Value}, s₁.heap.Ns b m → (hidT s₁.heap H).Ns b m := fun {b m} ⟨o, es, ep, e, d, r⟩ => ⟨o, es, ep, base_of e (noA e d), d, r⟩
    have hKb : K.In (hidT s₁.heap H) := fun b o e => base_of (KX b o e) (by
      cases z : H b with
      | none => rfl
      | some u =>
        rcases hO b u z with y | y
        · have e' := KX b o e
          rw [y, hT] at e'
          cases e'
          exact absurd e (ze9 kt)
        · have e2 := hK (by rw [← y.1, z]; simp)
          rw [← y.1, e] at e2
          cases e2)
    have hM : Mod K mg (hidT s₁.heap H) := ⟨hKb, nsK hns, ⟨mb, nsK hb, hbb⟩, let ⟨mc, h1, h2⟩ := hlim; ⟨mc, nsK h1, h2⟩⟩
    have e0 : Env0 P w K mg (hidT s₁.heap H) callerA [] s₁ H := ⟨rfl, hM, fun b o e => zkZ e, Nat.le_of_eq (zij _ _), trivial, fun b hb => absurd (show b ∈ ([] : List Addr) from hb) (by simp), hok, .of_eq hg⟩
    have hSi : Site K mg (hidT s₁.heap H) cv T := hs _ fun b o e n1 n2 => base_of e (no b n1 n2)
    refine codeAny_mono ((F _ hKb (nsK hns) hSi).run callerA [] s₁ H ⟨[.ref a], []⟩ [.ref a] [.ref a] _ _ hr e0 (hbind s₁ (.ref a)) (.cons rfl .nil) (hsp H hHT hS)) fun r s' h => ?_
    cases r with
    | error e => exact False.elim h
    | ok fl =>
      cases fl with
      | next => exact False.elim h
      | brk => exact False.elim h
      | cont => exact False.elim h
      | ret u =>
        obtain ⟨v, H', os, bare, un, hok', r', qv⟩ := h
        have qv' : v = .bl true := qv
        subst qv'
        obtain rfl : u = Value.bool true := r'
        have kp : ∀ b o, b ≠ T → s₁.heap.get? b = some o → s'.heap.get? b = some o := fun b o n e => by
          cases z : H b with
          | none => exact un.keep b o e z (by intro z; exact absurd (show b ∈ ([] : List Addr) from z) (by simp)) (by simp)
          | some u =>
            rcases hO b u z with y | ⟨y, rfl⟩
            · exact absurd y n
            · have z2 := un.frzs b _ _ z
              obtain ⟨e2, _⟩ := hok' b _ z2
              subst y
              rw [ha] at e
              cases e
              exact e2
        obtain ⟨ws, g1, _⟩ := hok' T _ (un.tbls T lp q hHT)
        refine ⟨rfl, ⟨fun b o e => ?_, fun b o e => ?_⟩, os, bare⟩
        · by_cases z : b = T
          · subst z
            rw [hT] at e
            cases e
            exact .inr (.inl ⟨hct, rfl, #[], ws, rfl, by simpa using g1⟩)
          · exact .inl (kp b o z e)
        · by_cases z : b = T
          · subst z
            exact ⟨_, g1⟩
          · exact ⟨o, kp b o z e⟩
  cases hk : K.lookup a with
  | some o =>
    have e := KX a o hk
    rw [ha] at e
    cases e
    refine core (fun b => if b = T then some (.tbl lp q) else none) (if_pos rfl) (.inr ⟨_, vs.toArray, _, hk, rfl, rfl, rfl, by rw [List.size_toArray, lenV]; exact hl, by simpa using rv⟩) (fun b u z => ?_) fun z => absurd (if_neg aT) z
    by_cases hb : b = T
    · exact .inl hb
    · have z' := (if_neg hb).symm.trans z
      cases z'
  | none =>
    refine core (fun b => if b = T then some (.tbl lp q) else if b = a then some (.frz { cls := .type "list", data := .seq vs.toArray } (.lst (ns.map V.int))) else none) (if_pos rfl) (.inl (.inr ⟨{ cls := .type "list", data := .seq vs.toArray }, (if_neg aT).trans (if_pos rfl)⟩)) (fun b u z => ?_) fun _ => hk
    by_cases hb : b = T
    · exact .inl hb
    · have z : (if b = T then some (HO.tbl lp q) else if b = a then some (.frz { cls := .type "list", data := .seq vs.toArray } (.lst (ns.map V.int))) else none) = some u := z
      rw [if_neg hb] at z
      by_cases hb2 : b = a
      · rw [if_pos hb2] at z
        cases z
        exact .inr ⟨hb2, rfl⟩
      · rw [if_neg hb2] at z
        cases z
theorem walk_ofT {l : OpenLaw} {n k : Nat} {qp : Program} {loose : List Str} {XP : (Str → Option Value) → Heap → Prop} {YP : World → Heap → Prop} {d : DefRec} {K : Params → Frag} {sp : Frag → Addr → Sp} {x g : Str} {lp : Pos} {q : Str}
    (hn : l.most = some n) (hn2 : n ≤ sizeLine) (hdf : d.params.defaults = []) (hr : Room k callerA)
    (hY : ∀ (w : World) (h : Heap), YP w h → (K w.params).In h) (hK : ∀ p, zez (K p) = true) (hrec : ∃ dr, (recsOf qp).find? (fun e => e.name == g) = some dr)
    (F : ∀ (w : World) (mg : Str → Option Value) (fa : Addr) (h : Heap), (K w.params).In h → h.Ns mainGlobals mg → mg d.name = some (.ref fa) →
      ∃ (fd fg : FuncData) (ag : Addr) (og : Obj), (∀ (s : Shared) (u : Value), BindsTo s fd ⟨[u], []⟩ [(x, u)]) ∧ mg g = some (.ref ag) ∧ (K w.params).lookup ag = some og ∧ og.data = .func fg ∧
        ∀ T (base : Heap), (K w.params).In base → base.Ns mainGlobals mg → Site (K w.params) mg base fg.code T → FnOk l.prog w (K w.params) mg base CX0 k fa fd [x] (sp (K w.params) T))
    (hsp : ∀ (K : Frag) (T : Addr) (H : Hp) (a : Addr) (ns : List Int), ns.length ≤ n → H T = some (.tbl lp q) → SqL K H a (ns.map V.int) → sp K T [.ref a] H (fun v _ => v = .bl true) fun _ _ _ => False) :
    WalkO qp loose XP YP l.row.toRowW d [] (fun f vs => PySem.call f vs) := by
  refine Att.attach_call hn hdf fun w s₀ s₁ mg mb fa o pm cd doc a vs ns G Y ho hd hcd hmg hobj hints hlen hg => ?_
  have KX := hY w _ Y
  obtain ⟨fd, fg, ag, og, hb, hmg2, hlk, hog, hF⟩ := F w mg fa _ KX G.T.g hmg
  obtain ⟨dr, hdr⟩ := hrec
  have hnm : dr.name = g := beq_iff_eq.mp (List.find?_some (p := fun e : DefRec => e.name == g) hdr)
  obtain ⟨a', o', fd', c, T, h1, h2, h3, h4, h5, h6⟩ := G.T.tab dr (List.mem_of_find?_eq_some hdr)
  rw [hnm, hmg2] at h1
  cases h1
  have h2' := KX ag og hlk
  rw [h2] at h2'
  cases h2'
  rw [hog] at h3
  cases h3
  obtain ⟨bm, ob, b1, b2, b3, b4, b5, b6⟩ := G.T.bmain
  have hT := h6.2
  have ha := hobj
  have bT : bm ≠ T := fun z => by
    rw [z, hT] at b3
    cases b3
    cases b4
  have ba : bm ≠ a := fun z => by
    rw [z, ha] at b3
    cases b3
    injection b4 with y
    exact absurd y (by decide)
  have bG : bm ≠ mainGlobals := fun z => by
    obtain ⟨og', es, ep, e, dd, _⟩ := G.T.g
    rw [z, e] at b3
    cases b3
    rw [dd] at b6
    cases b6
  have C := CodeHd.of h5 h6
  obtain ⟨⟨oc, us, c1, c2, c3, c4⟩, _⟩ := id h6
  have cT : c ≠ T := fun z => by
    rw [z, hT] at c1
    cases c1
    cases c2
  have ca : c ≠ a := fun z => by
    rw [z, ha] at c1
    cases c1
    injection c2 with y
    exact absurd y (by decide)
  have site : ∀ h : Heap, (∀ b o, s₁.heap.get? b = some o → b ≠ T → b ≠ a → h.get? b = some o) → Site (K w.params) mg h fg.code T := fun h kp =>
    ⟨⟨c, h4, by
      obtain ⟨o2, vs2, file, tf, flags, tg, inF, text, tt, e, r⟩ := id C
      exact ⟨o2, vs2, file, tf, flags, tg, inF, text, tt, kp _ _ e cT ca, r⟩⟩, bm, ob, b1, b2, bG, bT, kp _ _ b3 bT ba, b4, b5, b6⟩
  exact zi8 (lp := lp) (q := q) (sp := sp (K w.params) T) KX (hK _) G.T.g G.T.b G.T.builtins G.T.nolimit hg hobj hints (Nat.le_trans hlen hn2) hr hT h6.isCodeTable site (hF T) hb fun H hO hS => hsp (K w.params) T H a ns hlen hO hS
end L2
set_option Elab.async false
set_option linter.all false
set_option maxRecDepth 100000
set_option maxHeartbeats 4000000
namespace L2
open PySem PySem.Spec PyProof.Rows
theorem zeA {b : Int} (h0 : 0 < b) (h1 : b ≤ 12) : b ∣ 27720 := by
  obtain ⟨k, rfl⟩ := Int.eq_ofNat_of_zero_le (Int.le_of_lt h0)
  have hk : k ≤ 12 := Int.ofNat_le.mp h1
  have hp : 0 < k := Int.ofNat_lt.mp h0
  match k, hk, hp with
  | 1, _, _ => exact ⟨27720, rfl⟩
  | 2, _, _ => exact ⟨13860, rfl⟩
  | 3, _, _ => exact ⟨9240, rfl⟩
  | 4, _, _ => exact ⟨6930, rfl⟩
  | 5, _, _ => exact ⟨5544, rfl⟩
  | 6, _, _ => exact ⟨4620, rfl⟩
  | 7, _, _ => exact ⟨3960, rfl⟩
  | 8, _, _ => exact ⟨3465, rfl⟩
  | 9, _, _ => exact ⟨3080, rfl⟩
  | 10, _, _ => exact ⟨2772, rfl⟩
  | 11, _, _ => exact ⟨2520, rfl⟩
  | 12, _, _ => exact ⟨2310, rfl⟩
theorem zj6 {m b : Int} (hm : 0 < m) (hb : 0 < b) : 0 < m * b / M1.gd m b ∧ m ∣ m * b / M1.gd m b ∧ b ∣ m * b / M1.gd m b ∧ ∀ k : Int, m ∣ k → b ∣ k → m * b / M1.gd m b ∣ k := by
  obtain ⟨x, rfl⟩ := Int.eq_ofNat_of_zero_le (Int.le_of_lt hm)
  obtain ⟨y, rfl⟩ := Int.eq_ofNat_of_zero_le (Int.le_of_lt hb)
  have e : (x : Int) * (y : Int) / M1.gd x y = ((Nat.lcm x y : Nat) : Int) := by
    unfold M1.gd
    rw [Int.gcd_natCast_natCast]
    unfold Nat.lcm
    rw [← Int.natCast_mul, ← Int.natCast_ediv]
  rw [e]
  have x0 : 0 < x := by omega
  have y0 : 0 < y := by omega
  refine ⟨?_, ?_, ?_, fun k h1 h2 => ?_⟩
  · have := Nat.lcm_pos x0 y0
    omega
  · exact Int.natCast_dvd_natCast.mpr (Nat.dvd_lcm_left x y)
  · exact Int.natCast_dvd_natCast.mpr (Nat.dvd_lcm_right x y)
  · rw [Int.ofNat_dvd_left] at h1 h2 ⊢
    exact Nat.lcm_dvd h1 h2
def wM (c : Cl) (t M : Int) : Int := c.wt * (M / c.wb) + (t - c.came) * (c.st * (M / c.sb))
def kM (c : Cl) (t M : Int) : List Int := [-(wM c t M), c.came, c.n]
theorem zmf {c : Cl} {t M : Int} (h1 : c.wb ∣ M) (h2 : c.sb ∣ M) : wM c t M * wbot c = wtop c t * M := by
  have e1 := Int.ediv_mul_cancel h1
  have e2 := Int.ediv_mul_cancel h2
  unfold wM wbot wtop
  rw [Int.add_mul, Int.add_mul]
  congr 1
  · calc c.wt * (M / c.wb) * (c.wb * c.sb) = c.wt * c.sb * (M / c.wb * c.wb) := by ac_rfl
      _ = c.wt * c.sb * M := by rw [e1]
  · calc (t - c.came) * (c.st * (M / c.sb)) * (c.wb * c.sb) = (t - c.came) * c.st * c.wb * (M / c.sb * c.sb) := by ac_rfl
      _ = (t - c.came) * c.st * c.wb * M := by rw [e2]
theorem zm9 {c d : Cl} {t M : Int} (c1 : c.wb ∣ M) (c2 : c.sb ∣ M) (d1 : d.wb ∣ M) (d2 : d.sb ∣ M) : gap c d t * M = (wM c t M - wM d t M) * (wbot c * wbot d) := by
  have e1 := zmf (t := t) c1 c2
  have e2 := zmf (t := t) d1 d2
  unfold gap
  rw [Int.sub_mul, Int.sub_mul]
  congr 1
  · calc wtop c t * wbot d * M = (wtop c t * M) * wbot d := by ac_rfl
      _ = (wM c t M * wbot c) * wbot d := by rw [e1]
      _ = wM c t M * (wbot c * wbot d) := by ac_rfl
  · calc wtop d t * wbot c * M = (wtop d t * M) * wbot c := by ac_rfl
      _ = (wM d t M * wbot d) * wbot c := by rw [e2]
      _ = wM d t M * (wbot c * wbot d) := by ac_rfl
theorem zlu {c d : Cl} {t M : Int} (oc : c.Ok) (od : d.Ok) (hM : 0 < M) (c1 : c.wb ∣ M) (c2 : c.sb ∣ M) (d1 : d.wb ∣ M) (d2 : d.sb ∣ M) : HT.lexLt (kM c t M) (kM d t M) = ahd c d t := by
  have e := zm9 (t := t) c1 c2 d1 d2
  have bp : 0 < wbot c * wbot d := Int.mul_pos (zew oc) (zew od)
  unfold kM ahd
  rw [HT.lexLt_cons, zlr]
  rcases (by omega : wM c t M - wM d t M < 0 ∨ wM c t M - wM d t M = 0 ∨ 0 < wM c t M - wM d t M) with z | z | z
  · have g : gap c d t < 0 := by
      refine Int.not_le.mp fun y => ?_
      have h1 := Int.mul_nonneg y (Int.le_of_lt hM)
      have h2 := Int.mul_neg_of_neg_of_pos z bp
      omega
    rw [if_neg (by omega), if_neg (by omega), decide_eq_false (by omega), decide_eq_false (by omega)]
  · have g : gap c d t = 0 := by
      rw [z, Int.zero_mul] at e
      rcases Int.mul_eq_zero.mp e with y | y
      · exact y
      · omega
    rw [if_pos (by omega), if_pos g]
  · have g : 0 < gap c d t := by
      refine Int.not_le.mp fun y => ?_
      have h1 := Int.mul_nonpos_of_nonpos_of_nonneg y (Int.le_of_lt hM)
      have h2 := Int.mul_pos z bp
      omega
    rw [if_neg (by omega), if_neg (by omega), decide_eq_true (by omega), decide_eq_true (by omega)]
theorem zna {cs : List Cl} (g : Good cs) {i j : Nat} {c d : Cl} (h1 : cs[i]? = some c) (h2 : cs[j]? = some d) (ne : i ≠ j) : c.n ≠ d.n := fun e => by
  obtain ⟨a1, b1⟩ := List.getElem?_eq_some_iff.mp h1
  obtain ⟨a2, b2⟩ := List.getElem?_eq_some_iff.mp h2
  have nd := g.nd
  have := (List.getElem_inj (xs := cs.map (·.n)) (i := i) (j := j) (h₀ := by simpa using a1) (h₁ := by simpa using a2) nd).mp (by rw [List.getElem_map, List.getElem_map, b1, b2]; exact e)
  exact ne this
def zgF (cs : List Cl) (t : Int) (i j : Nat) : Bool := match cs[i]?, cs[j]? with
  | some c, some d => ahd c d t
  | _, _ => false
theorem zmg {cs : List Cl} (g : Good cs) (t : Int) : Tot cs.length (zgF cs t) where
  asym := fun i j hi hj h => by
    unfold zgF at h ⊢
    rw [List.getElem?_eq_getElem hi, List.getElem?_eq_getElem hj] at h ⊢
    cases z : ahd cs[j] cs[i] t with
    | false => exact z
    | true => exact (zfZ h z).elim
  tot := fun i j hi hj ne h => by
    unfold zgF at h ⊢
    rw [List.getElem?_eq_getElem hi, List.getElem?_eq_getElem hj] at h ⊢
    show ahd cs[j] cs[i] t = true
    rw [zhh (zna g (List.getElem?_eq_getElem hi) (List.getElem?_eq_getElem hj) ne)]
    have h : ahd cs[i] cs[j] t = false := h
    rw [h]
    rfl
  trans := fun i j k hi hj hk h1 h2 => by
    unfold zgF at h1 h2 ⊢
    rw [List.getElem?_eq_getElem hi, List.getElem?_eq_getElem hj] at h1
    rw [List.getElem?_eq_getElem hj, List.getElem?_eq_getElem hk] at h2
    rw [List.getElem?_eq_getElem hi, List.getElem?_eq_getElem hk]
    exact zfY (g.ok _ (List.getElem_mem hi)) (g.ok _ (List.getElem_mem hj)) (g.ok _ (List.getElem_mem hk)) h1 h2
def zcX (cs : List Cl) (t M : Int) (i : Nat) : List Int := match cs[i]? with
  | some c => kM c t M
  | none => [0, 0, 0]
theorem zkF (cs : List Cl) (t M : Int) (i : Nat) : (zcX cs t M i).length = 3 := by
  unfold zcX
  cases cs[i]? <;> rfl
theorem zmh {cs : List Cl} (g : Good cs) {t M : Int} (hM : 0 < M) (hd : ∀ c ∈ cs, c.wb ∣ M ∧ c.sb ∣ M) {i j : Nat} (hi : i < cs.length) (hj : j < cs.length) : HT.lexLt (zcX cs t M i) (zcX cs t M j) = zgF cs t i j := by
  unfold zcX zgF
  rw [List.getElem?_eq_getElem hi, List.getElem?_eq_getElem hj]
  have m1 := List.getElem_mem hi
  have m2 := List.getElem_mem hj
  exact zlu (g.ok _ m1) (g.ok _ m2) hM (hd _ m1).1 (hd _ m1).2 (hd _ m2).1 (hd _ m2).2
theorem Tot.congr {n : Nat} {lt lt' : Nat → Nat → Bool} (T : Tot n lt) (h : ∀ i j, i < n → j < n → lt' i j = lt i j) : Tot n lt' where
  asym := fun i j hi hj e => by
    rw [h i j hi hj] at e
    rw [h j i hj hi]
    exact T.asym i j hi hj e
  tot := fun i j hi hj ne e => by
    rw [h i j hi hj] at e
    rw [h j i hj hi]
    exact T.tot i j hi hj ne e
  trans := fun i j k hi hj hk e1 e2 => by
    rw [h i j hi hj] at e1
    rw [h j k hj hk] at e2
    rw [h i k hi hk]
    exact T.trans i j k hi hj hk e1 e2
theorem zkG {cs : List Cl} (g : Good cs) {t M : Int} (hM : 0 < M) (hd : ∀ c ∈ cs, c.wb ∣ M ∧ c.sb ∣ M) : Tot cs.length (fun i j => HT.lexLt (zcX cs t M i) (zcX cs t M j)) := (zmg g t).congr fun i j hi hj => zmh g hM hd hi hj
theorem zf2 {α : Type} (d : α) (xs : List α) {p : List Nat} (h : p.Perm (List.range xs.length)) : (p.map fun i => xs.getD i d).Perm xs := by
  have e : (List.range xs.length).map (fun i => xs.getD i d) = xs := by
    apply List.ext_getElem
    · simp
    · intro i h1 h2
      simp [h2]
  have := h.map fun i => xs.getD i d
  rw [e] at this
  exact this
theorem zho {ps : List (Addr × Cl)} (g : Good (ps.map (·.2))) {t M : Int} (hM : 0 < M) (hd : ∀ c ∈ ps.map (·.2), c.wb ∣ M ∧ c.sb ∣ M) {p : List Nat} (h : p.Perm (List.range (ps.map (·.2)).length)) (d : Addr × Cl)
    (hs : ∀ i j, i < j → j < p.length → HT.lexLt (zcX (ps.map (·.2)) t M (p.getD i 0)) (zcX (ps.map (·.2)) t M (p.getD j 0)) = true) : Srt t ((p.map fun i => ps.getD i d).map (·.2)) := by
  unfold Srt
  rw [List.map_map, List.pairwise_iff_getElem]
  intro i j hi hj ij
  rw [List.length_map] at hi hj
  have lt : ∀ k (hk : k < p.length), p[k] < (ps.map (·.2)).length := fun k hk => List.mem_range.mp (h.mem_iff.mp (List.getElem_mem hk))
  have z := hs i j ij hj
  rw [List.getD_eq_getElem?_getD, List.getD_eq_getElem?_getD, List.getElem?_eq_getElem hi, List.getElem?_eq_getElem hj] at z
  have z : HT.lexLt (zcX (ps.map (·.2)) t M p[i]) (zcX (ps.map (·.2)) t M p[j]) = true := z
  rw [zmh g hM hd (lt i hi) (lt j hj)] at z
  unfold zgF at z
  rw [List.getElem?_eq_getElem (lt i hi), List.getElem?_eq_getElem (lt j hj)] at z
  have z : ahd ((ps.map (·.2))[p[i]]'(lt i hi)) ((ps.map (·.2))[p[j]]'(lt j hj)) t = true := z
  rw [List.getElem_map, List.getElem_map] at z
  rw [List.getElem_map, List.getElem_map]
  have e : ∀ k (hk : k < p.length), ps.getD p[k] d = ps[p[k]]'(by have := lt k hk; simpa using this) := fun k hk => by
    have := lt k hk
    rw [List.getD_eq_getElem?_getD, List.getElem?_eq_getElem (by simpa using this)]
    rfl
  show ahd (ps.getD p[i] d).2 (ps.getD p[j] d).2 t = true
  rw [e i hi, e j hj]
  exact z
section
variable {X : Cx}
theorem zi9 (bs : List Bool) : (List.range bs.length).any (fun i => (bs[i]?).getD false) = bs.any id := by
  induction bs with
  | nil => rfl
  | cons b r ih =>
    rw [List.length_cons, List.range_succ_eq_map, List.any_cons, List.any_map, List.any_cons, ← ih]
    rfl
theorem zja (hc : X.calm = true) : zdp X (.builtin "any") (fun xs H Q => ∃ (p : Addr) (bs : List Bool), xs = [.ref p] ∧ SqL X.K H p (bs.map V.bl) ∧ Q (.bl (bs.any id)) H) := by
  intro pins s σ H xs us Q I r h
  obtain ⟨p, bs, rfl, hq, q⟩ := h
  obtain ⟨u, rfl, ru⟩ := zfi r
  cases ru
  obtain ⟨its, rv, pl, hz⟩ := I.list hq
  have lt : p < s.heap.objs.size := by
    obtain ⟨o, ho, _⟩ := pl.isList
    exact Heap.lt_size ho
  have hl : its.toArray.size = bs.length := by
    have := rv.length
    simp at this ⊢
    omega
  refine call_any_walk (wpAny_pyIter_list pl.isList ?_)
  refine ⟨s.heap.objs.size, _, _, _, _, _, fun i => (bs[i]?).getD false, rfl, Walks.list (prog := X.prog) (w := X.w) (A := X.A.in1) (show X.A.in1.handled = none from I.ok.hd hc) _ p (Nat.ne_of_lt lt) its.toArray, ⟨⟨_, Heap.get?_push_size _ rfl, rfl, rfl⟩, pl.isList.at fun o e => Heap.get?_push_of_some _ e⟩, fun i v s' Q' E' hP hQ' => ?_, fun h' tk kk => ?_⟩
  · have hP' : its[i]? = some v := by simpa using hP
    cases e : bs[i]? with
    | none =>
      have h1 : its.length ≤ i := by
        have h2 := List.getElem?_eq_none_iff.mp e
        simp at hl
        omega
      rw [List.getElem?_eq_none h1] at hP'
      cases hP'
    | some b =>
      dsimp only at hQ'
      rw [e] at hQ'
      obtain ⟨u, hu, ru⟩ := rv.get (i := i) (x := .bl b) (by rw [List.getElem?_map, e]; rfl)
      rw [hP'] at hu
      cases hu
      cases (show v = Value.bool b from ru)
      exact wpAny_truthy_bool hQ'
  · rw [hl, zi9]
    refine ⟨.bl _, H, I.kept (t' := tk) (h' := h') fun b o e => kk b o ?_ (Heap.get?_push_of_some _ e), rfl, q⟩
    intro z
    have z : b = s.heap.objs.size := by simpa using z
    exact Nat.ne_of_lt (Heap.lt_size e) z
end
end L2
set_option Elab.async false
set_option linter.all false
set_option maxRecDepth 100000
set_option maxHeartbeats 4000000
namespace L2
open PySem PySem.Spec PyProof.Rows PySem.W
section
variable {X : Cx}
def zmi (K : Frag) : List V → Hp → VK → Prop := fun vs H Q => ∃ (l : Addr) (xs : List V) (kf : Nat → List Int) (m : Nat), vs = [.ref l] ∧ SqL K H l xs ∧ xs.length < 64 ∧ (∀ i, (kf i).length = m) ∧ 0 < m ∧ Tot xs.length (fun i j => HT.lexLt (kf i) (kf j)) ∧
  (∀ i v, xs[i]? = some v → ∃ p, v = .ref p ∧ H p = some (.tup ((kf i).map V.int))) ∧
  ∀ D H' (p : List Nat), Same H H' → H D = none → H' D = some (.lst (p.map fun i => xs.getD i .non)) → p.Perm (List.range xs.length) → (∀ i j, i < j → j < p.length → HT.lexLt (kf (p.getD i 0)) (kf (p.getD j 0)) = true) → Q (.ref D) H'
theorem zhW : zdp X (.builtin "sorted") (zmi X.K) := by
  intro pins s σ H xs0 us Q I r h
  obtain ⟨l, xs, kf, m, rfl, hl, hn, k1, m1, T, hk, h⟩ := h
  obtain ⟨u, rfl, ru⟩ := zfi r
  cases ru
  obtain ⟨its, rv, pl, hz⟩ := I.list hl
  have il : its.length = xs.length := rv.length.symm
  have sl : (100 : Nat) ≤ sizeLine := by decide
  have kin : zhm H kf its := fun j hj => by
    have hjx : j < xs.length := by omega
    obtain ⟨p, e1, e2⟩ := hk j _ (List.getElem?_eq_getElem hjx)
    obtain ⟨u, hu, ru⟩ := rv.get (List.getElem?_eq_getElem hjx)
    rw [e1] at ru
    obtain rfl : u = .ref p := ru
    exact ⟨p, hu, e2⟩
  refine Calls.call_function_entry kind_sorted plain_sorted entry_sorted (args_sorted1 (.ref l)) ?_
  unfold Builtin.«sorted»
  refine wpAny_bind (m := checkCount "sorted" 1 1 _) (wpAny_pure (wpAny_bind (collect_list pl.isList (wpAny_bind (wpAny_newList ?_ (by omega))) (by omega))))
  have kA : ∀ b o, s.heap.get? b = some o → ((s.heap.push (seqObj "list" #[] 0)).update s.heap.objs.size (Obj.mapSeq (· ++ its.toArray))).get? b = some o := fun b o e => by
    rw [Heap.get?_update_ne _ _ _ _ (Nat.ne_of_lt (Heap.lt_size e))]
    exact Heap.get?_push_of_some _ e
  have sA : s.heap.objs.size ≤ ((s.heap.push (seqObj "list" #[] 0)).update s.heap.objs.size (Obj.mapSeq (· ++ its.toArray))).objs.size := by
    rw [Heap.size_update, size_push']
    exact Nat.le_succ _
  dsimp only
  generalize ((s.heap.push (seqObj "list" #[] 0)).update s.heap.objs.size (Obj.mapSeq (· ++ its.toArray))) = A1 at kA sA ⊢
  have hD : (A1.push (seqObj "list" its.toArray 0)).get? A1.objs.size = some (seqObj "list" its.toArray 0) := Heap.get?_push_size _ rfl
  generalize eD : A1.objs.size = D at hD sA ⊢
  have kB : ∀ b o, s.heap.get? b = some o → (A1.push (seqObj "list" its.toArray 0)).get? b = some o := fun b o e => Heap.get?_push_of_some _ (kA b o e)
  generalize A1.push (seqObj "list" its.toArray 0) = A2 at hD kB ⊢
  refine wpAny_bind (wpAny_holding (wpAny_call_entry slot_list_sort ⟨_, hD, rfl⟩ entry_list_sort ?body (args_list_sort (.ref D))))
  case body =>
    rw [list_sort_plain D]
    refine wpAny_bind (listItems_at hD rfl (wpAny_bind (listUpdate_at hD rfl ?_ (by rw [List.size_toArray]; omega) (Nat.zero_le _))))
    obtain ⟨e1, hD1⟩ : ∃ e1, (A2.update D (Obj.mapSeq fun _ => (#[] : Array Value))).get? D = some (seqObj "list" #[] e1) := ⟨_, get?_update_seq hD fun _ => #[]⟩
    have kC : ∀ b o, s.heap.get? b = some o → (A2.update D (Obj.mapSeq fun _ => (#[] : Array Value))).get? b = some o := fun b o e => by
      rw [Heap.get?_update_ne _ _ _ _ (Nat.ne_of_lt (Nat.lt_of_lt_of_le (Heap.lt_size e) sA))]
      exact kB b o e
    dsimp only
    refine wpAny_bind (seqEpoch_at hD1 rfl (wpAny_bind (wpAny_newTuple ?_ (by show its.length ≤ sizeLine; omega))))
    refine wpAny_bind (wpAny_newList (wpAny_holding ?_) (Nat.zero_le _))
    dsimp only
    generalize A2.update D (Obj.mapSeq fun _ => (#[] : Array Value)) = A3 at hD1 kC ⊢
    have hD3 := Heap.get?_push_of_some (seqObj "list" #[] 0) (Heap.get?_push_of_some (seqObj "tuple" its.toArray 0) hD1)
    have kF : ∀ b o, s.heap.get? b = some o → ((A3.push (seqObj "tuple" its.toArray 0)).push (seqObj "list" #[] 0)).get? b = some o := fun b o e => Heap.get?_push_of_some _ (Heap.get?_push_of_some _ (kC b o e))
    have nD : H D = none := I.hok.fresh sA
    have fD := I.fpOk (H' := H) sA nD
    have I0 : Inv X pins σ H { s with heap := (A3.push (seqObj "tuple" its.toArray 0)).push (seqObj "list" #[] 0) } := I.kept (t' := s.toks) kF
    show wpAny (model X.prog X.w) X.A.in1.in1 _ _ _ { s with heap := (A3.push (seqObj "tuple" its.toArray 0)).push (seqObj "list" #[] 0) }
    generalize (A3.push (seqObj "tuple" its.toArray 0)).push (seqObj "list" #[] 0) = A5 at hD3 kF I0 ⊢
    have fin : ∀ (p : List Nat), p.Perm (List.range xs.length) → (∀ i j, i < j → j < p.length → HT.lexLt (kf (p.getD i 0)) (kf (p.getD j 0)) = true) →
        EP X pins σ Q (.ref D) { s with heap := A5.update D (Obj.mapSeq fun _ => List.toArray (p.map fun i => its.getD i Value.none)) } := by
      intro p hp hs
      have pl2 : p.length = xs.length := by simpa using hp.length_eq
      obtain ⟨c2, hc2⟩ : ∃ c2, (A5.update D (Obj.mapSeq fun _ => List.toArray (p.map fun i => its.getD i Value.none))).get? D = some (seqObj "list" (List.toArray (p.map fun i => its.getD i Value.none)) c2) := ⟨_, get?_update_seq hD3 fun _ => List.toArray (p.map fun i => its.getD i Value.none)⟩
      have sb := Heap.SameBut.update A5 D (Obj.mapSeq fun _ => List.toArray (p.map fun i => its.getD i Value.none))
      have kp : ∀ b o, b ≠ D → A5.get? b = some o → (A5.update D (Obj.mapSeq fun _ => List.toArray (p.map fun i => its.getD i Value.none))).get? b = some o := fun b o n g => (sb.2 b n).trans g
      have trk : ∀ b u, H b = some u → b ≠ D := fun b u g z => by rw [z, nD] at g; cases g
      have sm : Same H (upd H D (.lst (p.map fun i => xs.getD i .non))) := fun b u g => by rw [zah (trk b u g)]; exact g
      refine ⟨.ref D, upd H D (.lst (p.map fun i => xs.getD i .non)), ?_, rfl, h D _ p sm nD zai hp hs⟩
      refine Inv.step (s := { s with heap := A5 }) (g' := s.gens) (d' := s.drawn) (t' := s.toks) (ch := [D]) I0 (fun b hb => ?_) (fun b o _ _ hc g _ => kp b o (fun z => hc (by simp [z])) g) (fun b o _ _ hc g _ => ⟨o.slots, kp b o (fun z => hc (by simp [z])) g⟩) (fun b o hc _ n => ?_) (fun b o hc g => ⟨o, kp b o (fun z => hc (by simp [z])) g⟩)
        (fun b ys g => sm b _ g) (fun b o u g => sm b _ g) (fun b lp lq g => sm b _ g) (fun mm hm => ?_) (fun b u g => ?_) I0.bare
      · have : b = D := by simpa using hb
        subst this
        exact ⟨fD.2.2.2.1, fD.2.1, fD.2.2.2.2.1, fD.2.2.2.2.2⟩
      · rw [zah (fun z => hc (by simp [z]))]
        exact n
      · obtain ⟨o, es, ep, g, r⟩ := hm
        exact ⟨o, es, ep, kp _ o (Ne.symm fD.2.1) g, r⟩
      · by_cases z : b = D
        · subst z
          rw [zai] at g
          cases g
          refine ⟨by rw [List.length_map, pl2]; omega, _, c2, zey rv p fun i hi => List.mem_range.mp (hp.mem_iff.mp hi), hc2⟩
        · rw [zah z] at g
          refine (I0.hok b u g).stay (fun d v hd q => kp d v ?_ q) (fun d q => sm d _ q) (fun d ys q => sm d _ q) fun d ob ys q => sm d _ q
          rcases hd with y | y
          · rw [y]; exact trk b u g
          · exact trk d _ y
    have tail : ∀ (st : SortSt) (p : List Nat), failedOf st = none → (arrOf st).map (·.2) = List.toArray (p.map fun i => its.getD i Value.none) → p.Perm (List.range xs.length) → (∀ i j, i < j → j < p.length → HT.lexLt (kf (p.getD i 0)) (kf (p.getD j 0)) = true) → (p.map fun i => its.getD i Value.none).length = its.length := fun st p _ _ hp _ => by
      rw [List.length_map]
      have := hp.length_eq
      simp at this
      omega
    by_cases n2 : its.toArray.size < 2
    · rw [if_pos n2, if_pos n2]
      refine wpAny_bind (wpAny_pure ?_)
      rw [StateT.run_pure]
      refine wpAny_bind (wpAny_pure ?_)
      dsimp only
      rw [List.size_toArray] at n2
      have hout : (arrOf (SortSt.mk' general' (its.toArray.zip its.toArray) #[] 7 none)).map (·.2) = List.toArray ((List.range xs.length).map fun i => its.getD i Value.none) := by
        show ((List.toArray its).zip its.toArray).map (·.2) = _
        rw [← il, zkE]
        apply Array.toList_inj.mp
        rw [Array.toList_map, ksk_zip]
        exact List.map_snd_zip (by simp)
      rw [hout]
      refine wpAny_bind (seqEpoch_at hD3 rfl (wpAny_bind (listUpdate_at hD3 rfl ?_ (Nat.zero_le _) (by simp; omega))))
      simp only [bne_self_eq_false, Bool.false_eq_true, if_false]
      refine wpAny_pure ⟨_, rfl, wpAny_pure ⟨_, rfl, fin (List.range xs.length) (List.Perm.refl _) fun i j ij jl => ?_⟩⟩
      rw [List.length_range] at jl
      omega
    · rw [if_neg n2, if_neg n2]
      rw [List.size_toArray] at n2
      refine wpAny_bind (zf1 I0 (fun i => by rw [k1]; exact m1) kin (by omega) ?_)
      refine wpAny_bind (wpAny_mono (kat_run (ks := its) (vs := its) (Q := fun st' s'' => ∃ p : Array Nat, arrOf st' = p.map (kas_item ((List.toArray its).zip its.toArray)) ∧ failedOf st' = none ∧ s'' = { s with heap := A5 } ∧ Pm xs.length p ∧ Sd (fun i j => HT.lexLt (kf i) (kf j)) p xs.length) (G := fun p s'' => s'' = { s with heap := A5 } ∧ Pm xs.length p ∧ Sd (fun i j => HT.lexLt (kf i) (kf j)) p xs.length)
        rfl (by omega) (by omega) (fun p st' s'' _ a2 a3 a4 => ⟨p, a2, a3, a4⟩) ?_) ?_ fun _ _ z => z)
      · rw [il]
        refine Asks.wp (n := xs.length) (lt := fun i j => HT.lexLt (kf i) (kf j)) (R := fun p => Pm xs.length p ∧ Sd (fun i j => HT.lexLt (kf i) (kf j)) p xs.length) (fun i j C hi hj hC => ?_) (fun p hp => ⟨rfl, hp⟩) _ (zi7 T (by omega))
        exact zhn I0 k1 kin (by omega) (by omega) hC
      · rintro ⟨⟨⟩, st'⟩ s'' ⟨p, har, hf, rfl, P, S⟩
        have hs : ∀ i j, i < j → j < p.toList.length → HT.lexLt (kf (p.toList.getD i 0)) (kf (p.toList.getD j 0)) = true := fun i j ij jl => by
          have e2 : ∀ k, p.toList.getD k 0 = p.getD k 0 := fun k => by rw [List.getD_eq_getElem?_getD, atq]; simp
          rw [e2, e2]
          exact S i j ij (by rw [Array.length_toList, P.sz] at jl; exact jl)
        have hout := kat_snds (ks := its) (vs := its) rfl har
        have lo := tail st' p.toList hf hout P.pm hs
        dsimp only
        rw [hout]
        refine wpAny_bind (seqEpoch_at hD3 rfl (wpAny_bind (listUpdate_at hD3 rfl ?_ (Nat.zero_le _) (by rw [List.size_toArray, lo]; omega))))
        rw [hf]
        simp only [bne_self_eq_false, Bool.false_eq_true, if_false]
        exact wpAny_pure ⟨_, rfl, wpAny_pure ⟨_, rfl, fin p.toList P.pm hs⟩⟩
end
end L2
set_option Elab.async false
set_option linter.all false
set_option maxRecDepth 100000
set_option maxHeartbeats 4000000
namespace L2
open PySem PySem.Spec PyProof.Rows
abbrev Row := Int × Int × Int
def Row.key (r : Row) : List Int := [r.1, r.2.1, r.2.2]
def rlt (r q : Row) : Bool := HT.lexLt (Row.key r) (Row.key q)
def rk (rows : List Row) (i : Nat) : List Int := match rows[i]? with
  | some r => Row.key r
  | none => [0, 0, 0]
noncomputable def mt (b l : Cl) (t : Int) : Option Int := open Classical in if h : ∃ u, Pass b l t (.int u) then some h.choose else none
structure RowsOf (cs : List Cl) (t : Int) (rows : List Row) : Prop where
  srt : rows.Pairwise fun r q => rlt r q = true
  mem : ∀ r : Row, r ∈ rows ↔ ∃ b f, b ∈ cs ∧ f ∈ cs ∧ ahd f b t = true ∧ mt b f t = some r.1 ∧ r.2.1 = b.n ∧ r.2.2 = f.n
structure IsRows (H : Hp) (l : Addr) (rs : List (Addr × Row)) : Prop where
  at_ : H l = some (.lst (rs.map fun r => V.ref r.1))
  rw : ∀ r, r ∈ rs → H r.1 = some (.tup ((Row.key r.2).map V.int))
end L2
set_option Elab.async false
set_option linter.all false
set_option maxRecDepth 100000
set_option maxHeartbeats 4000000
namespace L2
open PySem PySem.Spec PyProof.Rows
theorem zf3 {K : PySem.W.Frag} {a : Addr} {xs : List V} {js : List Nat} {tc : TT} {te : TE} {σ : St} {H1 : Hp} {Q : VK} (p : Nat → Bool) (f : Nat → List V) (hl : SqL K H1 a xs)
    (ht : ∀ i x Hh (Q' : Bool → Hp → Prop), xs[i]? = some x → Same H1 Hh → (∀ Hh', Same Hh Hh' → Q' (p i) Hh') → tc (some x :: caps σ js) Hh Q')
    (he : ∀ i x Hh (Q' : VK), xs[i]? = some x → p i = true → Same H1 Hh → (∀ b Hh', Same Hh Hh' → Hh' b = some (.tup (f i)) → Q' (.ref b) Hh') → te (some x :: caps σ js) Hh Q')
    (hz : xs.length < sizeLine) (q : ∀ D H2 (bs : List (Addr × List V)), Same H1 H2 → H1 D = none → H2 D = some (.lst (bs.map fun b => V.ref b.1)) → bs.map (·.2) = ((List.range xs.length).filter p).map f → (∀ b, b ∈ bs → H2 b.1 = some (.tup b.2)) → Q (.ref D) H2) :
    ze6 (Itl K a) js tc te σ H1 Q := by
  intro D H2 s2 hD h2
  refine ⟨fun i m acc H3 => m = xs.length - i ∧ i ≤ xs.length ∧ ∃ bs : List (Addr × List V), acc = (bs.map fun b => V.ref b.1) ∧ bs.map (·.2) = ((List.range i).filter p).map f ∧ (∀ b, b ∈ bs → H3 b.1 = some (.tup b.2)) ∧ Same H1 H3 ∧ H3 D = some (.lst acc), ⟨_, rfl, Nat.zero_le _, [], rfl, by simp, fun b hb => by simp at hb, s2, h2⟩, ?_⟩
  rintro i m acc H3 ⟨rfl, hi, bs, ea, eb, hb, s3, h3⟩
  have hl3 : SqL K H3 a xs := s3.seq hl
  have hll : acc.length ≤ xs.length := by
    have e := congrArg List.length eb
    rw [List.length_map, List.length_map] at e
    rw [ea, List.length_map, e]
    refine Nat.le_trans (List.length_filter_le _ _) ?_
    rw [List.length_range]
    exact hi
  refine ⟨h3, by omega, ?_⟩
  by_cases hlt : i < xs.length
  · have hx : xs[i]? = some xs[i] := List.getElem?_eq_getElem hlt
    refine .inr ⟨⟨xs, _, hl3, hx⟩, fun y H4 z => ?_⟩
    obtain ⟨e, ey⟩ := z
    have ey2 := ey xs hl3
    subst e
    refine ht i y _ _ ey2 s3 fun H5 s5 => ?_
    have h5 := s5 _ _ h3
    have s35 := s3.trans s5
    have tk : (List.range (i + 1)).filter p = (List.range i).filter p ++ (if p i = true then [i] else []) := by
      rw [List.range_succ, List.filter_append]
      congr 1
      cases h : p i <;> simp [h]
    cases hp : p i with
    | true =>
      refine iteT (he i y _ _ ey2 hp s35 fun b6 H6 s6 g6 => ⟨s6 _ _ h5, fun H7 k7 h7 => ⟨xs.length - (i + 1), by omega, rfl, hlt, bs ++ [(b6, f i)], ?_, ?_, fun b hb' => ?_, fun b o e => ?_, h7⟩⟩)
      · rw [ea, List.map_append]
        rfl
      · rw [List.map_append, eb, tk, hp, if_pos rfl, List.map_append]
        rfl
      · have nD : ∀ c t, H6 c = some (.tup t) → c ≠ D := fun c t g z => by
          rw [z, s6 _ _ h5] at g
          cases g
        rcases List.mem_append.mp hb' with h | h
        · have g := s6 _ _ (s5 _ _ (hb b h))
          exact k7 _ _ (nD _ _ g) g
        · have : b = (b6, f i) := by simpa using h
          subst this
          exact k7 _ _ (nD _ _ g6) g6
      · by_cases hbD : b = D
        · subst hbD
          rw [hD] at e
          cases e
        · exact k7 b o hbD (s6 b o (s35 b o e))
    | false =>
      refine iteF ⟨xs.length - (i + 1), by omega, rfl, hlt, bs, ea, ?_, fun b hb' => s5 _ _ (hb b hb'), s35, h5⟩
      rw [tk, hp, if_neg Bool.false_ne_true, List.append_nil]
      exact eb
  · have e : i = xs.length := by omega
    subst e
    refine .inl ⟨⟨xs, hl3, Nat.le_refl _⟩, ?_⟩
    rw [ea] at h3
    exact q D _ bs s3 hD h3 eb hb
section
variable {X : Cx} {K : PySem.W.Frag}
end
section
variable {X : Cx}
def zmj : TE := fun _ H Q => ∀ p H2, Same H H2 → H p = none → H2 p = some (.dK []) → Q (.ref p) H2
theorem zhp {pos : Pos} : PE X (.Dict [] [] pos) zmj := by
  with_unfolding_all
    exact fun pins s σ H Q I h => zjM pins s σ H Q I fun p n => h p _ (zaU n _) n zai
end
def zjb : Expr → Bool
  | .Starred .. => true
  | _ => false
theorem zhX {e : Expr} (h : zjb e = false) (rest : List Expr) (env : Env) : starEach (e :: rest) env = (false, eval e env) :: starEach rest env := by
  cases e <;> first | rfl | cases h
section
variable {X : Cx}
theorem zj7 {e : Expr} {es : List Expr} {te : TE} {t : TA} (ha : PE X e te) (hr : PA X es t) (hs : zjb e = false := by rfl) : PA X (e :: es) (ziy te t) := zaa ha hr (zhX hs es X.env)
end
theorem zeB {k : Int} : ∀ {ns : List Int}, inV (.int k) (ns.map V.int) = decide (k ∈ ns)
  | [] => by simp [inV]
  | n :: ns => by
    have ih := zeB (k := k) (ns := ns)
    unfold inV at ih ⊢
    rw [List.map_cons, List.any_cons, ih]
    by_cases e : k = n
    · subst e
      simp [eqV]
    · simp [eqV, e, Ne.symm e]
def tak {α : Type} (xs : List α) (P : α → Bool) (i : Nat) : Bool := match xs[i]? with
  | some x => P x
  | none => false
theorem zcj {α : Type} (P : α → Bool) (g : α → V) : ∀ xs : List α, ((List.range xs.length).filter (tak xs P)).map (itm xs g) = (xs.filter P).map g
  | [] => rfl
  | x :: xs => by
    rw [List.length_cons, List.range_succ_eq_map, List.filter_cons, List.filter_map]
    have e1 : (tak (x :: xs) P ∘ Nat.succ) = tak xs P := rfl
    have e2 : ∀ l : List Nat, (l.map Nat.succ).map (itm (x :: xs) g) = l.map (itm xs g) := fun l => by
      rw [List.map_map]
      rfl
    rw [e1, List.filter_cons]
    have e3 : tak (x :: xs) P 0 = P x := rfl
    rw [e3]
    cases P x with
    | true =>
      rw [if_pos rfl, if_pos rfl, List.map_cons, List.map_cons, e2, zcj P g xs]
      rfl
    | false =>
      rw [if_neg Bool.false_ne_true, if_neg Bool.false_ne_true, e2, zcj P g xs]
def itl {α : Type} (xs : List α) (g : α → List V) (i : Nat) : List V := match xs[i]? with
  | some x => g x
  | none => []
theorem zeC {α : Type} (P : α → Bool) (g : α → List V) : ∀ xs : List α, ((List.range xs.length).filter (tak xs P)).map (itl xs g) = (xs.filter P).map g
  | [] => rfl
  | x :: xs => by
    rw [List.length_cons, List.range_succ_eq_map, List.filter_cons, List.filter_map]
    have e1 : (tak (x :: xs) P ∘ Nat.succ) = tak xs P := rfl
    have e2 : ∀ l : List Nat, (l.map Nat.succ).map (itl (x :: xs) g) = l.map (itl xs g) := fun l => by
      rw [List.map_map]
      rfl
    rw [e1, List.filter_cons]
    have e3 : tak (x :: xs) P 0 = P x := rfl
    rw [e3]
    cases P x with
    | true =>
      rw [if_pos rfl, if_pos rfl, List.map_cons, List.map_cons, e2, zeC P g xs]
      rfl
    | false =>
      rw [if_neg Bool.false_ne_true, if_neg Bool.false_ne_true, e2, zeC P g xs]
end L2
set_option Elab.async false
set_option linter.all false
set_option maxRecDepth 100000
set_option maxHeartbeats 4000000
namespace L2
open PySem PySem.Spec PyProof.Rows
section
variable {X : Cx}
@[irreducible] def PAi (X : Cx) (es : List Expr) (t : TA) : Prop := PA X es t
theorem zbw : PAi X [] tNil := by
  unfold PAi
  exact zac
theorem zag {e : Expr} {es : List Expr} {te : TE} {t : TA} (ha : PE X e te) (hr : PAi X es t) (hs : zjb e = false := by rfl) : PAi X (e :: es) (ziy te t) := by
  unfold PAi at *
  exact zj7 ha hr hs
theorem pai {es : List Expr} {t : TA} (h : PAi X es t) : PA X es t := by
  unfold PAi at h
  exact h
end
end L2
set_option Elab.async false
set_option linter.all false
set_option maxRecDepth 100000
set_option maxHeartbeats 4000000
namespace L2
open PySem PySem.Spec PyProof.Rows
def Walk (cs : List Cl) (r : Row) : Prop := ∃ b f, b ∈ cs ∧ f ∈ cs ∧ b.n ≠ f.n ∧ ahd f b (r.1 - 1) = true ∧ ahd b f r.1 = true ∧ r.2.1 = b.n ∧ r.2.2 = f.n
structure Betw (cs : List Cl) (t u : Int) (rows : List Row) : Prop where
  srt : rows.Pairwise fun r q => rlt r q = true
  mem : ∀ r : Row, r ∈ rows ↔ (t < r.1 ∧ r.1 ≤ u) ∧ Walk cs r
end L2
set_option Elab.async false
set_option linter.all false
namespace L2
open PySem
theorem ul1 {α : Type} {us : List α} (h : us.length = 1) : ∃ a1, us = [a1] := by
  match us, h with
  | [a1], _ => exact ⟨a1, rfl⟩
theorem ul2 {α : Type} {us : List α} (h : us.length = 2) : ∃ a1 a2, us = [a1, a2] := by
  match us, h with
  | [a1, a2], _ => exact ⟨a1, a2, rfl⟩
theorem ul3 {α : Type} {us : List α} (h : us.length = 3) : ∃ a1 a2 a3, us = [a1, a2, a3] := by
  match us, h with
  | [a1, a2, a3], _ => exact ⟨a1, a2, a3, rfl⟩
theorem ul4 {α : Type} {us : List α} (h : us.length = 4) : ∃ a1 a2 a3 a4, us = [a1, a2, a3, a4] := by
  match us, h with
  | [a1, a2, a3, a4], _ => exact ⟨a1, a2, a3, a4, rfl⟩
theorem ul5 {α : Type} {us : List α} (h : us.length = 5) : ∃ a1 a2 a3 a4 a5, us = [a1, a2, a3, a4, a5] := by
  match us, h with
  | [a1, a2, a3, a4, a5], _ => exact ⟨a1, a2, a3, a4, a5, rfl⟩
theorem ul6 {α : Type} {us : List α} (h : us.length = 6) : ∃ a1 a2 a3 a4 a5 a6, us = [a1, a2, a3, a4, a5, a6] := by
  match us, h with
  | [a1, a2, a3, a4, a5, a6], _ => exact ⟨a1, a2, a3, a4, a5, a6, rfl⟩
end L2
set_option Elab.async false
set_option linter.all false
set_option maxRecDepth 100000
set_option maxHeartbeats 4000000
namespace L2
open PySem PySem.Spec PyProof.Rows
def Cl.at (d : Cl) (x : Int) : Cl := ⟨d.n, d.wt, d.wb, d.st, d.sb, x⟩
def ovr (c d : Cl) (t : Int) : Bool := decide (0 < gap d c t)
def abl (c d : Cl) (x u : Int) : Bool := ovr c (d.at x) x || ovr c (d.at x) u
inductive LastAt (c d : Cl) (b u : Int) : V → Prop
  | no : (∀ x, b ≤ x → x ≤ u → abl c d x u = false) → LastAt c d b u .non
  | at (r : Int) : b ≤ r → r ≤ u → abl c d r u = true → (∀ x, r < x → x ≤ u → abl c d x u = false) → LastAt c d b u (.int r)
section
variable {X : Cx}
end
end L2
set_option Elab.async false
set_option linter.all false
set_option maxRecDepth 100000
set_option maxHeartbeats 4000000
namespace L2
open PySem PySem.Spec PyProof.Rows
def zeD (J : It) (nk : Nat) (g : TG) (js : List Nat) (tc : TT) (te : TE) (σ : St) (H1 : Hp) (Q : VK) : Prop :=
  ∀ D H2, Same H1 H2 → H1 D = none → H2 D = some (.lst []) → ∃ W : Nat → Nat → List V → Hp → Prop, (∃ m, W 0 m [] H2) ∧ ∀ i m acc H3, W i m acc H3 →
    H3 D = some (.lst acc) ∧ acc.length < sizeLine ∧ ((J.stop i H3 ∧ Q (.ref D) H3) ∨ (J.go i H3 ∧ ∀ os : St, os.length = nk → ∀ x H4, J.yld i H3 x H4 →
      g x (os ++ caps σ js) H4 fun σ5 H5 => ∃ o5 : St, o5.length = nk ∧ σ5 = o5 ++ caps σ js ∧
      tc (o5 ++ caps σ js) H5 fun b H5 => if b = true then te (o5 ++ caps σ js) H5 fun v H6 => H6 D = some (.lst acc) ∧
          ∀ H7, (∀ b o, b ≠ D → H6 b = some o → H7 b = some o) → H7 D = some (.lst (acc ++ [v])) → ∃ m', m' < m ∧ W (i + 1) m' (acc ++ [v]) H7
        else ∃ m', m' < m ∧ W (i + 1) m' acc H5))
def zkH (wi : TI) (nk : Nat) (g : TG) (js : List Nat) (tc : TT) (te : TE) : TE := fun σ H Q => wi σ H fun J H1 => zeD J nk g js tc te σ H1 Q
structure CompScopeN (X : Cx) (scope : Scope) (nk : Nat) (N : List Str) (js : List Nat) : Prop where
  kind : scope.kind = .function
  nocell : ∀ y ∈ scope.names, y.2 ≠ .cell
  loc : ∀ y ∈ scope.names, y.2 = .local → scope.names.lookup y.1 = some .local
  own : ∀ (i : Nat) (x : Str), N[i]? = some x → i < nk → scope.names.lookup x = some .local
  free : ∀ y ∈ scope.names, y.2 = .free → X.env.kindOf y.1 = some .cell
  nd : N.Nodup
  len : N.length = js.length + nk
  apart : ∀ y, scope.names.lookup y = some .local → (y, NameKind.free) ∉ scope.names
  cap : ∀ (k j : Nat) (y : Str), N[k + nk]? = some y → js[k]? = some j → X.N[j]? = some y ∧ Vis X.env.scope y ∧ X.env.kindOf y = some .cell ∧ (y, NameKind.free) ∈ scope.names
theorem CompScopeN.of {X : Cx} {scope : Scope} {nk : Nat} {N : List Str} {js : List Nat} (c1 : scope.kind = .function) (c2 : (scope.names.all fun y => y.2 != .cell) = true)
    (c3 : (scope.names.all fun y => y.2 != .local || scope.names.lookup y.1 == some .local) = true) (c4 : ((N.take nk).all fun x => scope.names.lookup x == some .local) = true) (c5 : (scope.names.all fun y => y.2 != .free || X.env.kindOf y.1 == some .cell) = true)
    (nd : N.Nodup) (len : N.length = js.length + nk) (c6 : (scope.names.all fun y => y.2 != .free || scope.names.lookup y.1 != some .local) = true)
    (c7 : (((N.drop nk).zip js).all fun p => X.N[p.2]? == some p.1 && X.env.scope.names.lookup p.1 == some .cell && scope.names.contains (p.1, NameKind.free)) = true) : CompScopeN X scope nk N js where
  kind := c1
  nocell := fun y hy e => by
    have := List.all_eq_true.mp c2 y hy
    rw [e] at this
    exact absurd this (by decide)
  loc := fun y hy e => by
    have := List.all_eq_true.mp c3 y hy
    rw [e] at this
    simpa using this
  own := fun i x e h => by
    have m : x ∈ N.take nk := List.mem_of_getElem? (i := i) (by rw [List.getElem?_take, if_pos h]; exact e)
    simpa using List.all_eq_true.mp c4 x m
  free := fun y hy e => by
    have := List.all_eq_true.mp c5 y hy
    rw [e] at this
    simpa using this
  nd := nd
  len := len
  apart := fun y hl hm => by
    have := List.all_eq_true.mp c6 _ hm
    rw [hl] at this
    simp at this
  cap := fun k j y h1 h2 => by
    have hz : ((N.drop nk).zip js)[k]? = some (y, j) := by
      rw [List.getElem?_zip_eq_some]
      exact ⟨by rw [List.getElem?_drop, Nat.add_comm]; exact h1, h2⟩
    have := List.all_eq_true.mp c7 _ (List.mem_of_getElem? hz)
    simp only [Bool.and_eq_true, beq_iff_eq] at this
    obtain ⟨⟨a, b⟩, c⟩ := this
    exact ⟨a, .inr (.inl b), b, by simpa using c⟩
theorem zhq {X : Cx} {iter elt tg : Expr} {nk : Nat} {g : TG} {ifs : List Expr} {scope : Scope} {pos : Pos} {wi : TI} {N : List Str} {js : List Nat} {tc : TT} {te : TE}
    (hc : X.calm = true) (S : CompScopeN X scope nk N js) (hg : ∀ cl C s₀ H₀ ex, (∀ (i : Nat) (x : Str) (px : Pos), N[i]? = some x → i < nk → PG (zay X N scope cl C s₀ H₀ ex) (.Name x px) (zcb i)) → PG (zay X N scope cl C s₀ H₀ ex) tg g) (hi : PI X tg iter wi)
    (ht : ∀ cl C s₀ H₀ ex, ze5 (zay X N scope cl C s₀ H₀ ex) ifs tc) (he : ∀ cl C s₀ H₀ ex, PE (zay X N scope cl C s₀ H₀ ex) elt te)
    (hs : ∀ x, foldedSetIterable iter X.env x = pure x := by intro _; rfl) :
    PE X (.ListComp elt [⟨tg, iter, ifs, 0⟩] scope pos) (zkH wi nk g js tc te) := by
  with_unfolding_all
    intro pins s σ H Q I h
    have hcells : ∀ y ∈ scope.names, y.2 = .free → ∃ c, X.env.cells.lookup y.1 = some c := fun y hy hf => I.ok.has y.1 (.inl (S.free y hy hf))
    obtain ⟨cl, ecl, cl1, cl2⟩ := zdg hcells
    rw [eval_ListComp]
    refine wpAny_comprehension_free (use := none) rfl hs ecl S.kind S.loc (thn (hi pins s σ H _ I h) fun v s1 h1 => thn h1 fun itv s2 h2 => ?_)
    obtain ⟨it, fp, tn, J, H2, e, I2, T, st2, f2, q2⟩ := h2
    subst e
    refine wpAny_newObj_type (wpAny_newFunctionEnv S.nocell (by intro y hy; simp at hy) (fun h₁ hns₁ hsb₁ => ?_) S.kind)
    dsimp only at hns₁ hsb₁ ⊢
    generalize hP2 : s2.heap.push { cls := .type "list", dict := none, data := .seq ([] : List Value).toArray } = P2 at hns₁ hsb₁ ⊢
    have hC : P2.objs.size = s2.heap.objs.size + 1 := by rw [← hP2, Heap.size_push]
    have below : ∀ b, b < s2.heap.objs.size → b ≠ P2.objs.size ∧ b ≠ s2.heap.objs.size := fun b hb => ⟨by rw [hC]; exact Nat.ne_of_lt (Nat.lt_succ_of_lt hb), Nat.ne_of_lt hb⟩
    have hDC : s2.heap.objs.size ≠ P2.objs.size := by rw [hC]; exact Nat.ne_of_lt (Nat.lt_succ_self _)
    have old : ∀ b o, s2.heap.get? b = some o → h₁.get? b = some o := fun b o e => hsb₁.extBut b o (below b (Heap.lt_size e)).1 (Heap.get?_push_of_some _ (hP2 ▸ Heap.get?_push_of_some _ e))
    have hD : h₁.get? s2.heap.objs.size = some { cls := .type "list", dict := none, data := .seq ([] : List Value).toArray } := hsb₁.extBut _ _ hDC (Heap.get?_push_of_some _ (hP2 ▸ Heap.get?_push_size _ rfl))
    have hDn : H2 s2.heap.objs.size = none := I2.hok.fresh (Nat.le_refl _)
    have hCn : H2 P2.objs.size = none := I2.hok.fresh (by rw [hC]; exact Nat.le_succ _)
    obtain ⟨W, ⟨m0, w0⟩, turn⟩ := q2 s2.heap.objs.size _ (zaU hDn (.lst [])) hDn zai
    have fpl : ∀ b ∈ fp, b < s2.heap.objs.size := fun b hb => by
      obtain ⟨o, e, _⟩ := T.obj 0 _ st2 b hb
      exact Heap.lt_size e
    have yok : (zay X N scope cl P2.objs.size s2 H2 fp).Ok :=
      { mod := I2.ok.mod
        kind := S.kind
        glob := I2.ok.glob
        blt := I2.ok.blt
        above := by show s2.heap.objs.size ≤ P2.objs.size; rw [hC]; exact Nat.le_succ _
        inj := fun y z c h1 h2 => I2.ok.inj y z c (cl1 y c h1) (cl1 z c h2)
        has := fun y hy => by
          have hy' : (y, NameKind.free) ∈ scope.names := by
            rcases hy with hy | hy
            · exact za3 (env := X.env) hy (.inl rfl) S.nocell
            · exact za3 (env := X.env) hy (.inr rfl) S.nocell
          exact cl2 y hy'
        cab := fun y c hf _ => by cases hf
        hd := fun hc' => I2.ok.hd hc'
        frames := I2.ok.frames
        stk := .inl rfl
        exf := fun b hb => ⟨(below b (fpl b hb)).1, fun y c e => (f2 b hb).2.2.2.2.1 y c (cl1 y c e)⟩
        bs := I2.bs
        bsz := Nat.le_trans I2.ok.bsz I2.sz
        noex := fun b o e hb => by
          rcases (f2 b hb).2.2.2.1 with z | z
          · exact I2.ok.noex b o e z
          · exact absurd (Nat.lt_of_lt_of_le (Nat.lt_of_lt_of_le (Heap.lt_size e) I2.ok.bsz) z) (Nat.lt_irrefl _)
        exfs := fun b hb hf => by
          rcases List.mem_cons.mp (I2.stkSub b hf) with z | z
          · exact (f2 b hb).2.1 z
          · exact (f2 b hb).2.2.1 z
        funs := I2.stack
        frf := I2.stkFree }
    have hokD : HOk X.prog X.w (upd H2 s2.heap.objs.size (.lst [])) h₁ := I2.hok.laid old (Nat.le_refl _) ⟨Nat.zero_le _, [], 0, .nil, hD⟩
    have I3 : Inv (zay X N scope cl P2.objs.size s2 H2 fp) [] (List.replicate nk none ++ caps σ js) (upd H2 s2.heap.objs.size (.lst [])) { s2 with heap := h₁, toks := s2.toks + ([] : List (Str × Value)).length } :=
      { ok := yok
        os := rfl
        bare := I2.bare
        base := Un.laid old (Nat.le_refl _) hDn
        loc := by
          refine ⟨_, hns₁, fun i y v e1 e2 e3 => ?_⟩
          by_cases ik : i < nk
          · rw [List.getElem?_append_left (by simpa using ik), List.getElem?_replicate, if_pos ik] at e2
            cases e2
          · obtain ⟨k, rfl⟩ : ∃ k, i = k + nk := ⟨i - nk, by omega⟩
            have e2' : (caps σ js)[k]? = some (some v) := by
              rw [List.getElem?_append_right (by simp)] at e2
              simpa using e2
            unfold caps at e2'
            rw [List.getElem?_map] at e2'
            cases ej : js[k]? with
            | none => rw [ej] at e2'; cases e2'
            | some j =>
              rw [ej] at e2'
              have e4 : (σ[j]?).join = some v := Option.some.inj e2'
              have e5 : σ[j]? = some (some v) := by
                cases eσ : σ[j]? with
                | none => rw [eσ] at e4; cases e4
                | some o => rw [eσ] at e4; exact congrArg some e4
              obtain ⟨n1, n2, n3, n4⟩ := S.cap k j y e1 ej
              obtain ⟨mX, _, lX⟩ := I2.loc
              obtain ⟨u, ru, lk⟩ := lX j y v n1 e5 n2
              refine ⟨u, ru, ?_⟩
              rcases lk with ⟨lk, _⟩ | ⟨_, c, ec, cell⟩
              · rw [n3] at lk; cases lk
              · obtain ⟨c', ec'⟩ := cl2 y n4
                have : c' = c := Option.some.inj ((cl1 y c' ec').symm.trans ec)
                subst this
                obtain ⟨o, ho, hd⟩ := cell
                refine .inr ⟨?_, c', ec', ⟨o, old _ _ ho, hd⟩⟩
                have e3' : (relabel scope X.env).names.lookup y = some .local ∨ (relabel scope X.env).names.lookup y = some .cell ∨ (relabel scope X.env).names.lookup y = some .free := e3
                rcases e3' with z | z | z
                · exfalso
                  have hm := PySem.mem_of_lookup z
                  obtain ⟨⟨n, k'⟩, hn, e⟩ := List.mem_map.mp hm
                  dsimp only at e
                  by_cases cc : (k' == NameKind.free && X.env.scope.kind == .function && X.env.kindOf n == some .cell) = true
                  · rw [if_pos cc] at e
                    cases e
                  · rw [if_neg cc] at e
                    cases e
                    have l1 := S.loc _ hn rfl
                    have l2 := lookup_relabel_local (env := X.env) l1
                    have f1 := S.free _ n4 rfl
                    exact S.apart y l1 n4
                · exact .inl z
                · exact .inr z
        cell := fun y c e => by
          obtain ⟨v, o, ho, hd⟩ := I2.cell y c (cl1 y c e)
          exact ⟨v, o, old _ _ ho, hd⟩
        free := by show upd H2 s2.heap.objs.size (.lst []) P2.objs.size = none; rw [zah (Ne.symm hDC)]; exact hCn
        freeC := fun y c e => by
          obtain ⟨v, o, ho, hd⟩ := I2.cell y c (cl1 y c e)
          rw [zah (below c (Heap.lt_size ho)).2]
          exact I2.freeC y c (cl1 y c e)
        pin := fun p hp => by simp at hp
        hok := hokD
        len := by show (List.replicate nk none ++ caps σ js).length = N.length; rw [S.len]; simp [caps, Nat.add_comm] }
    have st3 : tn 0 h₁ := T.keep 0 _ _ st2 fun b _ o e => old b o e
    have fr3 : ∀ b ∈ fp, (upd H2 s2.heap.objs.size (.lst [])) b = none := fun b hb => by
      rw [zah (below b (fpl b hb)).2]
      exact (f2 b hb).1
    have stat : ∀ {H' : Hp}, (∀ b ∈ fp, H' b = none) → ∀ b ∈ fp, FpOk (zay X N scope cl P2.objs.size s2 H2 fp) [] H' b := fun hn b hb =>
      ⟨hn b hb, (below b (fpl b hb)).1, yok.exfs b hb, .inl hb, fun y c e => (f2 b hb).2.2.2.2.1 y c (cl1 y c e), fun p hp => by simp at hp⟩
    have pgn : PG (zay X N scope cl P2.objs.size s2 H2 fp) tg g := hg cl _ s2 H2 fp fun i x px e1 e2 => zaD S.nd e1 (.inl (lookup_relabel_local (S.own i x e1 e2))) (.inr (lookup_relabel_local (S.own i x e1 e2)))
    have loop : ∀ s₃ : Shared, s₃ = { s2 with heap := h₁, toks := s2.toks + ([] : List (Str × Value)).length } →
        codeAny (model X.prog X.w) X.A (.compLoop (.ListComp elt [⟨tg, iter, ifs, 0⟩] scope pos) 0 (.ref it) (.ref s2.heap.objs.size) (compEnvC scope cl P2.objs.size X.env))
          (compPost (model X.prog X.w) X.A X.xe none (EP X pins σ Q) (.ref s2.heap.objs.size) P2.objs.size) s₃ := by
      rintro s₃ rfl
      refine codeAny_loop rfl (fun n s' => ∃ i, ∃ o : St, ∃ acc H', o.length = nk ∧ Inv (zay X N scope cl P2.objs.size s2 H2 fp) [] (o ++ caps σ js) H' s' ∧ tn i s'.heap ∧ (∀ b ∈ fp, H' b = none) ∧ W i n acc H') ?_ m0 ⟨0, List.replicate nk none, [], _, List.length_replicate, I3, st3, fr3, w0⟩
      rintro n s4 ⟨i, o, acc, H4, ol, I4, st4, fr4, w4⟩
      show wpAny _ X.A ((compTurn (.ListComp elt [⟨tg, iter, ifs, 0⟩] scope pos) 0 (.ref it) (.ref s2.heap.objs.size) (compEnvC scope cl P2.objs.size X.env)).onRaise (fun x => do noteFrame x (compEnvC scope cl P2.objs.size X.env); theTreesLotGoes x)) _ _ s4
      refine wpAny_noted ?_
      rw [compTurn_list]
      refine wpAny_bind (wpAny_standAt (wpAny_bind ?_))
      obtain ⟨hD4, hz4, alt⟩ := turn i n acc H4 w4
      rcases alt with ⟨stop, qn⟩ | ⟨go, step⟩
      · refine thn (T.done (zay X N scope cl P2.objs.size s2 H2 fp) rfl rfl rfl hc i [] s4 _ H4 _ I4 (stat fr4) st4 stop) fun r s5 ⟨hr, I5⟩ => ?_
        subst hr
        refine wpAny_pure ?_
        obtain ⟨m5, n5, _⟩ := I5.loc
        refine ⟨m5, n5, fun h' sb => ⟨.ref s2.heap.objs.size, H4, ?_, rfl, qn⟩⟩
        have k5 : ∀ b o, b ≠ P2.objs.size → s5.heap.get? b = some o → h'.get? b = some o := fun b o hb e => sb.extBut b o hb e
        have u5 := I5.base
        have nC : ∀ b o, s2.heap.get? b = some o → b ≠ P2.objs.size := fun b o e => (below b (Heap.lt_size e)).1
        refine I2.call' (s' := { s5 with heap := h' }) (ch := fp) I5.os ?_ ?_ I5.bare fun b hb => ⟨(f2 b hb).2.2.2.1, (f2 b hb).2.1, (f2 b hb).2.2.2.2.1, (f2 b hb).2.2.2.2.2⟩
        · refine ⟨fun b o e n1 n2 n3 => k5 b o (nC b o e) (u5.keep b o e n1 n2 n3), fun b o e n1 n2 n3 => ?_, u5.free, fun b o e n3 => ?_, u5.tups, u5.frzs, u5.tbls⟩
          · obtain ⟨sl, z⟩ := u5.slot b o e n1 n2 n3
            exact ⟨sl, k5 b _ (nC b o e) z⟩
          · obtain ⟨o', z⟩ := u5.there b o e n3
            exact ⟨o', k5 b o' (nC b o e) z⟩
        · intro b u e
          refine (I5.hok b u e).stay (fun c v hc q => k5 c v ?_ q) (fun _ q => q) (fun _ _ q => q) fun _ _ _ q => q
          rintro rfl
          rcases hc with z | z
          · rw [← z, show H4 P2.objs.size = none from I5.free] at e; cases e
          · have := I5.free
            rw [show H4 P2.objs.size = none from I5.free] at z
            cases z
      · refine thn (T.item (zay X N scope cl P2.objs.size s2 H2 fp) rfl rfl rfl hc i [] s4 _ H4 _ I4 (stat fr4) st4 go) fun r s5 ⟨u, hr, h5⟩ => ?_
        subst hr
        refine wpAny_bind (thn h5 fun _ s6 ⟨y, H6, I6, r6, y6, st6, fr6⟩ => ?_)
        have I6' := I6.pinned (stat fr6) (T.obj _ _ st6)
        refine wpAny_bind (wpAny_mono (pgn _ s6 (o ++ caps σ js) H6 y u _ I6' r6 (step o ol y _ y6)) (fun _ s7 ⟨σ7, H7, I7, o7, l7, e7, q7⟩ => ?_) fun _ _ z => z.elim)
        subst e7
        have back : ∀ {s9 : Shared} {H9 : Hp} {acc9 : List V} {m9 : Nat}, Inv (zay X N scope cl P2.objs.size s2 H2 fp) ([] ++ zd3 fp s6.heap) (o7 ++ caps σ js) H9 s9 → m9 < n → W (i + 1) m9 acc9 H9 →
            ∃ m, m < n ∧ ∃ i, ∃ o : St, ∃ acc H', o.length = nk ∧ Inv (zay X N scope cl P2.objs.size s2 H2 fp) [] (o ++ caps σ js) H' s9 ∧ tn i s9.heap ∧ (∀ b ∈ fp, H' b = none) ∧ W i m acc H' := fun {s9 H9 acc9 m9} I9 hm w9 => by
          refine ⟨m9, hm, i + 1, o7, acc9, H9, l7, I9.unpinned, T.keep _ _ _ st6 fun b hb o e => (I9.pin (b, o) (List.mem_append_right _ (List.mem_append_right _ (zbd hb e)))).1, fun b hb => ?_, w9⟩
          obtain ⟨o, e, d⟩ := T.obj _ _ st6 b hb
          exact (I9.pin (b, o) (List.mem_append_right _ (List.mem_append_right _ (zbd hb e)))).2.1
        refine wpAny_bind (wpAny_mono (ht cl _ s2 H2 fp _ s7 _ _ _ I7 q7) (fun ok s8 ⟨H8, I8, q8⟩ => ?_) fun _ _ z => z.elim)
        cases ok with
        | false =>
          obtain ⟨m9, hm, w9⟩ := q8
          exact wpAny_pure ⟨rfl, back I8 hm w9⟩
        | true =>
          refine wpAny_bind (wpAny_bind (wpAny_mono (he cl _ s2 H2 fp _ s8 _ _ _ I8 q8) (fun xv s9 ⟨v9, H9, I9, r9, hD9, q9⟩ => ?_) fun _ _ z => z.elim))
          refine wpAny_bind (wpAny_mono (zc4 (X := zay X N scope cl P2.objs.size s2 H2 fp) _ s9 _ H9 (.ref s2.heap.objs.size) [v9] (.ref s2.heap.objs.size) [xv] (fun _ H' => H' = upd H9 s2.heap.objs.size (.lst (acc ++ [v9]))) I9 rfl (.cons r9 .nil) ⟨_, acc, v9, rfl, rfl, hD9, hz4, rfl⟩) (fun _ s10 ⟨v10, H10, I10, _, e10⟩ => ?_) fun _ _ z => z.elim)
          subst e10
          obtain ⟨m9, hm, w9⟩ := q9 _ (fun b o hb e => by rw [zah hb]; exact e) zai
          exact wpAny_pure (wpAny_pure ⟨rfl, back I10 hm w9⟩)
    exact codeAny_compStart_list (loop _ rfl) (T.self _ 0 _ _ _ st3 (loop _ rfl))
theorem zdj {X : Cx} {iter elt tg : Expr} {nk : Nat} {g : TG} {y : Str} {i : Nat} {py spos : Pos} {ifs : List Expr} {scope : Scope} {pos : Pos} {wi : TI} {N : List Str} {js : List Nat} {tc : TT} {te : TE}
    (hN : X.N.Nodup) (hiN : X.N[i]? = some y) (hyl : X.env.scope.names.lookup y = some .local)
    (hc : X.calm = true) (S : CompScopeN X scope nk N js) (hg : ∀ cl C s₀ H₀ ex, (∀ (i : Nat) (x : Str) (px : Pos), N[i]? = some x → i < nk → PG (zay X N scope cl C s₀ H₀ ex) (.Name x px) (zcb i)) → PG (zay X N scope cl C s₀ H₀ ex) tg g) (hi : PI X tg iter wi)
    (ht : ∀ cl C s₀ H₀ ex, ze5 (zay X N scope cl C s₀ H₀ ex) ifs tc) (he : ∀ cl C s₀ H₀ ex, PE (zay X N scope cl C s₀ H₀ ex) elt te)
    (hsw : swapsWith (.ListComp elt [⟨tg, iter, ifs, 0⟩] scope pos) (some (.Name y py)) spos.line X.env = pure true := by rfl)
    (hs : ∀ x, foldedSetIterable iter X.env x = pure x := by intro _; rfl) :
    PS X (.Assign [.Name y py] (.ListComp elt [⟨tg, iter, ifs, 0⟩] scope pos) spos) (tAsg (zkH wi nk g js tc te) (zcb i)) := by
  with_unfolding_all
    intro pins s σ H DD I h
    have hcells : ∀ y ∈ scope.names, y.2 = .free → ∃ c, X.env.cells.lookup y.1 = some c := fun y hy hf => I.ok.has y.1 (.inl (S.free y hy hf))
    obtain ⟨cl, ecl, cl1, cl2⟩ := zdg hcells
    rw [exec_Assign_Name_used _ _ _ _ hsw]
    refine wpAny_bind (wpAny_standAt (wpAny_bind ?_))
    show wpAny _ X.A (do let _ ← comprehension (.ListComp elt [⟨tg, iter, ifs, 0⟩] scope pos) scope X.env _ (newList []) false (eval iter X.env) (some (assign (.Name y py) X.env))) _ _ s
    refine wpAny_bind (wpAny_mono (wpAny_comprehension_free (use := some (assign (.Name y py) X.env)) (Q := fun _ s' => SP X pins DD .next s') rfl hs ecl S.kind S.loc (thn (hi pins s σ H _ I h) fun v s1 h1 => thn h1 fun itv s2 h2 => ?_)) (fun _ s' hq => wpAny_pure (wpAny_pure hq)) fun _ _ e => e)
    obtain ⟨it, fp, tn, J, H2, e, I2, T, st2, f2, q2⟩ := h2
    subst e
    refine wpAny_newObj_type (wpAny_newFunctionEnv S.nocell (by intro y hy; simp at hy) (fun h₁ hns₁ hsb₁ => ?_) S.kind)
    dsimp only at hns₁ hsb₁ ⊢
    generalize hP2 : s2.heap.push { cls := .type "list", dict := none, data := .seq ([] : List Value).toArray } = P2 at hns₁ hsb₁ ⊢
    have hC : P2.objs.size = s2.heap.objs.size + 1 := by rw [← hP2, Heap.size_push]
    have below : ∀ b, b < s2.heap.objs.size → b ≠ P2.objs.size ∧ b ≠ s2.heap.objs.size := fun b hb => ⟨by rw [hC]; exact Nat.ne_of_lt (Nat.lt_succ_of_lt hb), Nat.ne_of_lt hb⟩
    have hDC : s2.heap.objs.size ≠ P2.objs.size := by rw [hC]; exact Nat.ne_of_lt (Nat.lt_succ_self _)
    have old : ∀ b o, s2.heap.get? b = some o → h₁.get? b = some o := fun b o e => hsb₁.extBut b o (below b (Heap.lt_size e)).1 (Heap.get?_push_of_some _ (hP2 ▸ Heap.get?_push_of_some _ e))
    have hD : h₁.get? s2.heap.objs.size = some { cls := .type "list", dict := none, data := .seq ([] : List Value).toArray } := hsb₁.extBut _ _ hDC (Heap.get?_push_of_some _ (hP2 ▸ Heap.get?_push_size _ rfl))
    have hDn : H2 s2.heap.objs.size = none := I2.hok.fresh (Nat.le_refl _)
    have hCn : H2 P2.objs.size = none := I2.hok.fresh (by rw [hC]; exact Nat.le_succ _)
    obtain ⟨W, ⟨m0, w0⟩, turn⟩ := q2 s2.heap.objs.size _ (zaU hDn (.lst [])) hDn zai
    have fpl : ∀ b ∈ fp, b < s2.heap.objs.size := fun b hb => by
      obtain ⟨o, e, _⟩ := T.obj 0 _ st2 b hb
      exact Heap.lt_size e
    have yok : (zay X N scope cl P2.objs.size s2 H2 fp).Ok :=
      { mod := I2.ok.mod
        kind := S.kind
        glob := I2.ok.glob
        blt := I2.ok.blt
        above := by show s2.heap.objs.size ≤ P2.objs.size; rw [hC]; exact Nat.le_succ _
        inj := fun y z c h1 h2 => I2.ok.inj y z c (cl1 y c h1) (cl1 z c h2)
        has := fun y hy => by
          have hy' : (y, NameKind.free) ∈ scope.names := by
            rcases hy with hy | hy
            · exact za3 (env := X.env) hy (.inl rfl) S.nocell
            · exact za3 (env := X.env) hy (.inr rfl) S.nocell
          exact cl2 y hy'
        cab := fun y c hf _ => by cases hf
        hd := fun hc' => I2.ok.hd hc'
        frames := I2.ok.frames
        stk := .inl rfl
        exf := fun b hb => ⟨(below b (fpl b hb)).1, fun y c e => (f2 b hb).2.2.2.2.1 y c (cl1 y c e)⟩
        bs := I2.bs
        bsz := Nat.le_trans I2.ok.bsz I2.sz
        noex := fun b o e hb => by
          rcases (f2 b hb).2.2.2.1 with z | z
          · exact I2.ok.noex b o e z
          · exact absurd (Nat.lt_of_lt_of_le (Nat.lt_of_lt_of_le (Heap.lt_size e) I2.ok.bsz) z) (Nat.lt_irrefl _)
        exfs := fun b hb hf => by
          rcases List.mem_cons.mp (I2.stkSub b hf) with z | z
          · exact (f2 b hb).2.1 z
          · exact (f2 b hb).2.2.1 z
        funs := I2.stack
        frf := I2.stkFree }
    have hokD : HOk X.prog X.w (upd H2 s2.heap.objs.size (.lst [])) h₁ := I2.hok.laid old (Nat.le_refl _) ⟨Nat.zero_le _, [], 0, .nil, hD⟩
    have I3 : Inv (zay X N scope cl P2.objs.size s2 H2 fp) [] (List.replicate nk none ++ caps σ js) (upd H2 s2.heap.objs.size (.lst [])) { s2 with heap := h₁, toks := s2.toks + ([] : List (Str × Value)).length } :=
      { ok := yok
        os := rfl
        bare := I2.bare
        base := Un.laid old (Nat.le_refl _) hDn
        loc := by
          refine ⟨_, hns₁, fun i y v e1 e2 e3 => ?_⟩
          by_cases ik : i < nk
          · rw [List.getElem?_append_left (by simpa using ik), List.getElem?_replicate, if_pos ik] at e2
            cases e2
          · obtain ⟨k, rfl⟩ : ∃ k, i = k + nk := ⟨i - nk, by omega⟩
            have e2' : (caps σ js)[k]? = some (some v) := by
              rw [List.getElem?_append_right (by simp)] at e2
              simpa using e2
            unfold caps at e2'
            rw [List.getElem?_map] at e2'
            cases ej : js[k]? with
            | none => rw [ej] at e2'; cases e2'
            | some j =>
              rw [ej] at e2'
              have e4 : (σ[j]?).join = some v := Option.some.inj e2'
              have e5 : σ[j]? = some (some v) := by
                cases eσ : σ[j]? with
                | none => rw [eσ] at e4; cases e4
                | some o => rw [eσ] at e4; exact congrArg some e4
              obtain ⟨n1, n2, n3, n4⟩ := S.cap k j y e1 ej
              obtain ⟨mX, _, lX⟩ := I2.loc
              obtain ⟨u, ru, lk⟩ := lX j y v n1 e5 n2
              refine ⟨u, ru, ?_⟩
              rcases lk with ⟨lk, _⟩ | ⟨_, c, ec, cell⟩
              · rw [n3] at lk; cases lk
              · obtain ⟨c', ec'⟩ := cl2 y n4
                have : c' = c := Option.some.inj ((cl1 y c' ec').symm.trans ec)
                subst this
                obtain ⟨o, ho, hd⟩ := cell
                refine .inr ⟨?_, c', ec', ⟨o, old _ _ ho, hd⟩⟩
                have e3' : (relabel scope X.env).names.lookup y = some .local ∨ (relabel scope X.env).names.lookup y = some .cell ∨ (relabel scope X.env).names.lookup y = some .free := e3
                rcases e3' with z | z | z
                · exfalso
                  have hm := PySem.mem_of_lookup z
                  obtain ⟨⟨n, k'⟩, hn, e⟩ := List.mem_map.mp hm
                  dsimp only at e
                  by_cases cc : (k' == NameKind.free && X.env.scope.kind == .function && X.env.kindOf n == some .cell) = true
                  · rw [if_pos cc] at e
                    cases e
                  · rw [if_neg cc] at e
                    cases e
                    have l1 := S.loc _ hn rfl
                    have l2 := lookup_relabel_local (env := X.env) l1
                    have f1 := S.free _ n4 rfl
                    exact S.apart y l1 n4
                · exact .inl z
                · exact .inr z
        cell := fun y c e => by
          obtain ⟨v, o, ho, hd⟩ := I2.cell y c (cl1 y c e)
          exact ⟨v, o, old _ _ ho, hd⟩
        free := by show upd H2 s2.heap.objs.size (.lst []) P2.objs.size = none; rw [zah (Ne.symm hDC)]; exact hCn
        freeC := fun y c e => by
          obtain ⟨v, o, ho, hd⟩ := I2.cell y c (cl1 y c e)
          rw [zah (below c (Heap.lt_size ho)).2]
          exact I2.freeC y c (cl1 y c e)
        pin := fun p hp => by simp at hp
        hok := hokD
        len := by show (List.replicate nk none ++ caps σ js).length = N.length; rw [S.len]; simp [caps, Nat.add_comm] }
    have st3 : tn 0 h₁ := T.keep 0 _ _ st2 fun b _ o e => old b o e
    have fr3 : ∀ b ∈ fp, (upd H2 s2.heap.objs.size (.lst [])) b = none := fun b hb => by
      rw [zah (below b (fpl b hb)).2]
      exact (f2 b hb).1
    have stat : ∀ {H' : Hp}, (∀ b ∈ fp, H' b = none) → ∀ b ∈ fp, FpOk (zay X N scope cl P2.objs.size s2 H2 fp) [] H' b := fun hn b hb =>
      ⟨hn b hb, (below b (fpl b hb)).1, yok.exfs b hb, .inl hb, fun y c e => (f2 b hb).2.2.2.2.1 y c (cl1 y c e), fun p hp => by simp at hp⟩
    have pgn : PG (zay X N scope cl P2.objs.size s2 H2 fp) tg g := hg cl _ s2 H2 fp fun i x px e1 e2 => zaD S.nd e1 (.inl (lookup_relabel_local (S.own i x e1 e2))) (.inr (lookup_relabel_local (S.own i x e1 e2)))
    have loop : ∀ s₃ : Shared, s₃ = { s2 with heap := h₁, toks := s2.toks + ([] : List (Str × Value)).length } →
        codeAny (model X.prog X.w) X.A (.compLoop (.ListComp elt [⟨tg, iter, ifs, 0⟩] scope pos) 0 (.ref it) (.ref s2.heap.objs.size) (compEnvC scope cl P2.objs.size X.env))
          (compPost (model X.prog X.w) X.A X.xe (some (assign (.Name y py) X.env)) (fun _ s' => SP X pins DD .next s') (.ref s2.heap.objs.size) P2.objs.size) s₃ := by
      rintro s₃ rfl
      refine codeAny_loop rfl (fun n s' => ∃ i, ∃ o : St, ∃ acc H', o.length = nk ∧ Inv (zay X N scope cl P2.objs.size s2 H2 fp) [] (o ++ caps σ js) H' s' ∧ tn i s'.heap ∧ (∀ b ∈ fp, H' b = none) ∧ W i n acc H') ?_ m0 ⟨0, List.replicate nk none, [], _, List.length_replicate, I3, st3, fr3, w0⟩
      rintro n s4 ⟨i, o, acc, H4, ol, I4, st4, fr4, w4⟩
      show wpAny _ X.A ((compTurn (.ListComp elt [⟨tg, iter, ifs, 0⟩] scope pos) 0 (.ref it) (.ref s2.heap.objs.size) (compEnvC scope cl P2.objs.size X.env)).onRaise (fun x => do noteFrame x (compEnvC scope cl P2.objs.size X.env); theTreesLotGoes x)) _ _ s4
      refine wpAny_noted ?_
      rw [compTurn_list]
      refine wpAny_bind (wpAny_standAt (wpAny_bind ?_))
      obtain ⟨hD4, hz4, alt⟩ := turn i n acc H4 w4
      rcases alt with ⟨stop, qn⟩ | ⟨go, step⟩
      · refine thn (T.done (zay X N scope cl P2.objs.size s2 H2 fp) rfl rfl rfl hc i [] s4 _ H4 _ I4 (stat fr4) st4 stop) fun r s5 ⟨hr, I5⟩ => ?_
        subst hr
        refine wpAny_pure ?_
        obtain ⟨m5, n5, _⟩ := I5.loc
        have u5 := I5.base
        have nC : ∀ b o, s2.heap.get? b = some o → b ≠ P2.objs.size := fun b o e => (below b (Heap.lt_size e)).1
        have IX : Inv X pins σ H4 s5 := by
          refine I2.call' (s' := s5) (ch := fp) I5.os ?_ I5.hok I5.bare fun b hb => ⟨(f2 b hb).2.2.2.1, (f2 b hb).2.1, (f2 b hb).2.2.2.2.1, (f2 b hb).2.2.2.2.2⟩
          exact ⟨u5.keep, u5.slot, u5.free, u5.there, u5.tups, u5.frzs, u5.tbls⟩
        obtain ⟨g0, g1, g2, g3, g4, g5⟩ := I2.fpOk (b := P2.objs.size) (H' := H4) (by rw [hC]; exact Nat.le_succ _) I5.free
        refine wpAny_assign_Name (zem IX hN hiN (.inl hyl) (v := .ref s2.heap.objs.size) rfl (fun s6 I6 ⟨aa, sb6, ha⟩ => ?_) (.inr hyl))
        have hCa : P2.objs.size ≠ aa := by
          rcases ha with rfl | ha
          · exact g1
          · exact fun z => g4 _ _ ha z.symm
        refine ⟨m5, n5.sameBut sb6 hCa, fun h' sb => ⟨_, H4, ?_, qn⟩⟩
        exact I6.turned (t' := s6.toks) (fun b o hb e => sb.extBut b o hb e) g0 g1 g3 g4 g5
      · refine thn (T.item (zay X N scope cl P2.objs.size s2 H2 fp) rfl rfl rfl hc i [] s4 _ H4 _ I4 (stat fr4) st4 go) fun r s5 ⟨u, hr, h5⟩ => ?_
        subst hr
        refine wpAny_bind (thn h5 fun _ s6 ⟨y, H6, I6, r6, y6, st6, fr6⟩ => ?_)
        have I6' := I6.pinned (stat fr6) (T.obj _ _ st6)
        refine wpAny_bind (wpAny_mono (pgn _ s6 (o ++ caps σ js) H6 y u _ I6' r6 (step o ol y _ y6)) (fun _ s7 ⟨σ7, H7, I7, o7, l7, e7, q7⟩ => ?_) fun _ _ z => z.elim)
        subst e7
        have back : ∀ {s9 : Shared} {H9 : Hp} {acc9 : List V} {m9 : Nat}, Inv (zay X N scope cl P2.objs.size s2 H2 fp) ([] ++ zd3 fp s6.heap) (o7 ++ caps σ js) H9 s9 → m9 < n → W (i + 1) m9 acc9 H9 →
            ∃ m, m < n ∧ ∃ i, ∃ o : St, ∃ acc H', o.length = nk ∧ Inv (zay X N scope cl P2.objs.size s2 H2 fp) [] (o ++ caps σ js) H' s9 ∧ tn i s9.heap ∧ (∀ b ∈ fp, H' b = none) ∧ W i m acc H' := fun {s9 H9 acc9 m9} I9 hm w9 => by
          refine ⟨m9, hm, i + 1, o7, acc9, H9, l7, I9.unpinned, T.keep _ _ _ st6 fun b hb o e => (I9.pin (b, o) (List.mem_append_right _ (List.mem_append_right _ (zbd hb e)))).1, fun b hb => ?_, w9⟩
          obtain ⟨o, e, d⟩ := T.obj _ _ st6 b hb
          exact (I9.pin (b, o) (List.mem_append_right _ (List.mem_append_right _ (zbd hb e)))).2.1
        refine wpAny_bind (wpAny_mono (ht cl _ s2 H2 fp _ s7 _ _ _ I7 q7) (fun ok s8 ⟨H8, I8, q8⟩ => ?_) fun _ _ z => z.elim)
        cases ok with
        | false =>
          obtain ⟨m9, hm, w9⟩ := q8
          exact wpAny_pure ⟨rfl, back I8 hm w9⟩
        | true =>
          refine wpAny_bind (wpAny_bind (wpAny_mono (he cl _ s2 H2 fp _ s8 _ _ _ I8 q8) (fun xv s9 ⟨v9, H9, I9, r9, hD9, q9⟩ => ?_) fun _ _ z => z.elim))
          refine wpAny_bind (wpAny_mono (zc4 (X := zay X N scope cl P2.objs.size s2 H2 fp) _ s9 _ H9 (.ref s2.heap.objs.size) [v9] (.ref s2.heap.objs.size) [xv] (fun _ H' => H' = upd H9 s2.heap.objs.size (.lst (acc ++ [v9]))) I9 rfl (.cons r9 .nil) ⟨_, acc, v9, rfl, rfl, hD9, hz4, rfl⟩) (fun _ s10 ⟨v10, H10, I10, _, e10⟩ => ?_) fun _ _ z => z.elim)
          subst e10
          obtain ⟨m9, hm, w9⟩ := q9 _ (fun b o hb e => by rw [zah hb]; exact e) zai
          exact wpAny_pure (wpAny_pure ⟨rfl, back I10 hm w9⟩)
    exact codeAny_compStart_list (loop _ rfl) (T.self _ 0 _ _ _ st3 (loop _ rfl))
end L2
set_option Elab.async false
set_option linter.all false
set_option maxRecDepth 100000
set_option maxHeartbeats 4000000
namespace L2
open PySem PySem.Spec PyProof.Rows
section
variable {X : Cx}
def rEqE (K : PySem.W.Frag) : R2 := fun x y H Q => ∃ a b xs, x = .ref a ∧ y = .ref b ∧ SqL K H a xs ∧ SqL K H b [] ∧ Q (.bl xs.isEmpty) H
theorem zjc (hu : X.A.units < cLine) : OpR X (compareOp .Eq) (rEqE X.K) := by
  intro pins s σ H x y v u Q I rx ry h
  obtain ⟨a, b, xs, rfl, rfl, hx, hy, q⟩ := h
  cases xs with
  | nil => exact ziL hu pins s σ H _ _ v u Q I rx ry ⟨a, b, [], [], rfl, rfl, hx, hy, rfl, rfl, q⟩
  | cons z zs =>
    cases rx
    cases ry
    obtain ⟨its, r, pl, hz⟩ := I.list hx
    obtain ⟨its2, r2, pl2, hz2⟩ := I.list hy
    have e1 : its.toArray.size = zs.length + 1 := by simp [← r.length]
    have e2 : its2.toArray.size = 0 := by simp [← r2.length]
    refine SeqAt.eq_list_lengthsAt pl.isList pl2.isList ?_ hu ⟨.bl _, H, I, rfl, q⟩
    rw [e1, e2]
    simp
theorem zmk (hu : X.A.units < cLine) : OpR X (compareOp .NotEq) (fun x y H Q => ∃ a b xs, x = .ref a ∧ y = .ref b ∧ SqL X.K H a xs ∧ SqL X.K H b [] ∧ Q (.bl (!xs.isEmpty)) H) := by
  intro pins s σ H x y v u Q I rx ry h
  obtain ⟨a, b, xs, rfl, rfl, hx, hy, q⟩ := h
  cases xs with
  | nil => exact zfT hu pins s σ H _ _ v u Q I rx ry ⟨a, b, [], [], rfl, rfl, hx, hy, rfl, rfl, q⟩
  | cons z zs =>
    cases rx
    cases ry
    obtain ⟨its, r, pl, hz⟩ := I.list hx
    obtain ⟨its2, r2, pl2, hz2⟩ := I.list hy
    have e1 : its.toArray.size = zs.length + 1 := by simp [← r.length]
    have e2 : its2.toArray.size = 0 := by simp [← r2.length]
    refine SeqAt.RcNeAt.lists_lengths pl.isList pl2.isList ?_ hu X.prog X.w X.xe _ ⟨.bl _, H, I, rfl, q⟩
    rw [e1, e2]
    simp
end
theorem zdk {K : PySem.W.Frag} {a : Addr} {xs : List V} {nk : Nat} {g : TG} {js : List Nat} {tc : TT} {te : TE} {σ : St} {H1 : Hp} {Q : VK} (o : Nat → St) (p : Nat → Bool) (f : Nat → V) (hl : SqL K H1 a xs) (ho : ∀ i, (o i).length = nk)
    (hg : ∀ i x Hh os (R : St → Hp → Prop), xs[i]? = some x → Same H1 Hh → os.length = nk → R (o i ++ caps σ js) Hh → g x (os ++ caps σ js) Hh R)
    (ht : ∀ i x Hh (Q' : Bool → Hp → Prop), xs[i]? = some x → Same H1 Hh → (∀ Hh', Same Hh Hh' → Q' (p i) Hh') → tc (o i ++ caps σ js) Hh Q')
    (he : ∀ i x Hh (Q' : VK), xs[i]? = some x → p i = true → Same H1 Hh → (∀ Hh', Same Hh Hh' → Q' (f i) Hh') → te (o i ++ caps σ js) Hh Q')
    (hz : xs.length < sizeLine) (q : ∀ D H2, Same H1 H2 → H1 D = none → H2 D = some (.lst (((List.range xs.length).filter p).map f)) → Q (.ref D) H2) :
    zeD (Itl K a) nk g js tc te σ H1 Q := by
  intro D H2 s2 hD h2
  refine ⟨fun i m acc H3 => m = xs.length - i ∧ i ≤ xs.length ∧ acc = ((List.range i).filter p).map f ∧ Same H1 H3 ∧ H3 D = some (.lst acc), ⟨_, rfl, Nat.zero_le _, by simp, s2, h2⟩, ?_⟩
  rintro i m acc H3 ⟨rfl, hi, ea, s3, h3⟩
  have hl3 : SqL K H3 a xs := s3.seq hl
  have hll : acc.length ≤ xs.length := by
    rw [ea, List.length_map]
    refine Nat.le_trans (List.length_filter_le _ _) ?_
    rw [List.length_range]
    exact hi
  refine ⟨h3, by omega, ?_⟩
  by_cases hlt : i < xs.length
  · have hx : xs[i]? = some xs[i] := List.getElem?_eq_getElem hlt
    refine .inr ⟨⟨xs, _, hl3, hx⟩, fun os ol y H4 z => ?_⟩
    obtain ⟨e, ey⟩ := z
    have ey2 := ey xs hl3
    subst e
    refine hg i y _ os _ ey2 s3 ol ⟨o i, ho i, rfl, ?_⟩
    refine ht i y _ _ ey2 s3 fun H5 s5 => ?_
    have h5 := s5 _ _ h3
    have s35 := s3.trans s5
    have tk : (List.range (i + 1)).filter p = (List.range i).filter p ++ (if p i = true then [i] else []) := by
      rw [List.range_succ, List.filter_append]
      congr 1
      cases h : p i <;> simp [h]
    cases hp : p i with
    | true =>
      refine iteT (he i y _ _ ey2 hp s35 fun H6 s6 => ⟨s6 _ _ h5, fun H7 k7 h7 => ⟨xs.length - (i + 1), by omega, rfl, hlt, ?_, fun b o e => ?_, h7⟩⟩)
      · rw [tk, hp, if_pos rfl, List.map_append, ← ea]
        rfl
      · by_cases hb : b = D
        · subst hb
          rw [hD] at e
          cases e
        · exact k7 b o hb (s6 b o (s35 b o e))
    | false =>
      refine iteF ⟨xs.length - (i + 1), by omega, rfl, hlt, ?_, s35, h5⟩
      rw [tk, hp, if_neg Bool.false_ne_true, List.append_nil]
      exact ea
  · have e : i = xs.length := by omega
    subst e
    refine .inl ⟨⟨xs, hl3, Nat.le_refl _⟩, ?_⟩
    rw [ea] at h3
    exact q D _ s3 hD h3
theorem zhY {K : PySem.W.Frag} {a : Addr} {xs : List V} {nk : Nat} {g : TG} {js : List Nat} {tc : TT} {te : TE} {σ : St} {H1 : Hp} {Q : VK} (o : Nat → St) (p : Nat → Bool) (f : Nat → List V) (hl : SqL K H1 a xs) (ho : ∀ i, (o i).length = nk)
    (hg : ∀ i x Hh os (R : St → Hp → Prop), xs[i]? = some x → Same H1 Hh → os.length = nk → R (o i ++ caps σ js) Hh → g x (os ++ caps σ js) Hh R)
    (ht : ∀ i x Hh (Q' : Bool → Hp → Prop), xs[i]? = some x → Same H1 Hh → (∀ Hh', Same Hh Hh' → Q' (p i) Hh') → tc (o i ++ caps σ js) Hh Q')
    (he : ∀ i x Hh (Q' : VK), xs[i]? = some x → p i = true → Same H1 Hh → (∀ b Hh', Same Hh Hh' → Hh' b = some (.tup (f i)) → Q' (.ref b) Hh') → te (o i ++ caps σ js) Hh Q')
    (hz : xs.length < sizeLine) (q : ∀ D H2 (bs : List (Addr × List V)), Same H1 H2 → H1 D = none → H2 D = some (.lst (bs.map fun b => V.ref b.1)) → bs.map (·.2) = ((List.range xs.length).filter p).map f → (∀ b, b ∈ bs → H2 b.1 = some (.tup b.2)) → Q (.ref D) H2) :
    zeD (Itl K a) nk g js tc te σ H1 Q := by
  intro D H2 s2 hD h2
  refine ⟨fun i m acc H3 => m = xs.length - i ∧ i ≤ xs.length ∧ ∃ bs : List (Addr × List V), acc = (bs.map fun b => V.ref b.1) ∧ bs.map (·.2) = ((List.range i).filter p).map f ∧ (∀ b, b ∈ bs → H3 b.1 = some (.tup b.2)) ∧ Same H1 H3 ∧ H3 D = some (.lst acc), ⟨_, rfl, Nat.zero_le _, [], rfl, by simp, fun b hb => by simp at hb, s2, h2⟩, ?_⟩
  rintro i m acc H3 ⟨rfl, hi, bs, ea, eb, hb, s3, h3⟩
  have hl3 : SqL K H3 a xs := s3.seq hl
  have hll : acc.length ≤ xs.length := by
    have e := congrArg List.length eb
    rw [List.length_map, List.length_map] at e
    rw [ea, List.length_map, e]
    refine Nat.le_trans (List.length_filter_le _ _) ?_
    rw [List.length_range]
    exact hi
  refine ⟨h3, by omega, ?_⟩
  by_cases hlt : i < xs.length
  · have hx : xs[i]? = some xs[i] := List.getElem?_eq_getElem hlt
    refine .inr ⟨⟨xs, _, hl3, hx⟩, fun os ol y H4 z => ?_⟩
    obtain ⟨e, ey⟩ := z
    have ey2 := ey xs hl3
    subst e
    refine hg i y _ os _ ey2 s3 ol ⟨o i, ho i, rfl, ?_⟩
    refine ht i y _ _ ey2 s3 fun H5 s5 => ?_
    have h5 := s5 _ _ h3
    have s35 := s3.trans s5
    have tk : (List.range (i + 1)).filter p = (List.range i).filter p ++ (if p i = true then [i] else []) := by
      rw [List.range_succ, List.filter_append]
      congr 1
      cases h : p i <;> simp [h]
    cases hp : p i with
    | true =>
      refine iteT (he i y _ _ ey2 hp s35 fun b6 H6 s6 g6 => ⟨s6 _ _ h5, fun H7 k7 h7 => ⟨xs.length - (i + 1), by omega, rfl, hlt, bs ++ [(b6, f i)], ?_, ?_, fun b hb' => ?_, fun b o e => ?_, h7⟩⟩)
      · rw [ea, List.map_append]
        rfl
      · rw [List.map_append, eb, tk, hp, if_pos rfl, List.map_append]
        rfl
      · have nD : ∀ c t, H6 c = some (.tup t) → c ≠ D := fun c t g z => by
          rw [z, s6 _ _ h5] at g
          cases g
        rcases List.mem_append.mp hb' with h | h
        · have g := s6 _ _ (s5 _ _ (hb b h))
          exact k7 _ _ (nD _ _ g) g
        · have : b = (b6, f i) := by simpa using h
          subst this
          exact k7 _ _ (nD _ _ g6) g6
      · by_cases hbD : b = D
        · subst hbD
          rw [hD] at e
          cases e
        · exact k7 b o hbD (s6 b o (s35 b o e))
    | false =>
      refine iteF ⟨xs.length - (i + 1), by omega, rfl, hlt, bs, ea, ?_, fun b hb' => s5 _ _ (hb b hb'), s35, h5⟩
      rw [tk, hp, if_neg Bool.false_ne_true, List.append_nil]
      exact eb
  · have e : i = xs.length := by omega
    subst e
    refine .inl ⟨⟨xs, hl3, Nat.le_refl _⟩, ?_⟩
    rw [ea] at h3
    exact q D _ bs s3 hD h3 eb hb
def sts {α : Type} (k : Nat) (xs : List α) (g : α → List V) (i : Nat) : St := match xs[i]? with
  | some x => (g x).map some
  | none => List.replicate k none
theorem zdr {α : Type} {k : Nat} {xs : List α} {g : α → List V} (h : ∀ x, (g x).length = k) (i : Nat) : (sts k xs g i).length = k := by
  unfold sts
  cases xs[i]? with
  | none => exact List.length_replicate
  | some x => show ((g x).map some).length = k; rw [List.length_map]; exact h x
theorem len2 {os : St} (h : os.length = 2) : ∃ a b, os = [a, b] := by
  match os, h with
  | [a, b], _ => exact ⟨a, b, rfl⟩
end L2
set_option Elab.async false
set_option linter.all false
set_option maxRecDepth 100000
set_option maxHeartbeats 4000000
namespace L2
open PySem PySem.Spec PyProof.Rows
section
variable {pg : Program} {wd : World} {Ar : Around} {Rs : Result → Shared → Prop} {It : Addr} {fp wr : List Addr} {n : Nat} {Pv : Nat → Value → Prop} {Sv : Nat → Heap → Prop}
end
section
variable {X : Cx}
end
end L2
set_option Elab.async false
set_option linter.all false
set_option maxRecDepth 100000
set_option maxHeartbeats 4000000
namespace L2
open PySem PySem.Spec PyProof.Rows
structure IsPrs (H : Hp) (l : Addr) (rs : List (Addr × Row)) : Prop where
  at_ : H l = some (.lst (rs.map fun r => V.ref r.1))
  rw : ∀ r, r ∈ rs → H r.1 = some (.tup [.int r.2.2.1, .int r.2.2.2])
end L2
set_option Elab.async false
set_option linter.all false
set_option maxRecDepth 100000
set_option maxHeartbeats 4000000
namespace L2
open PySem PySem.Spec PyProof.Rows
structure IsCh (K : PySem.W.Frag) (H : Hp) (p : Addr) (x : Cl × Int) : Prop where
  ex : ∃ pc, H p = some (.tup [.ref pc, .int x.2]) ∧ IsCl K H pc x.1
theorem IsCh.same {K : PySem.W.Frag} {H H' : Hp} {p : Addr} {x : Cl × Int} (s : Same H H') (h : IsCh K H p x) : IsCh K H' p x := let ⟨pc, a, b⟩ := h.ex; ⟨pc, s _ _ a, b.same s⟩
theorem IsCh.but {K : PySem.W.Frag} {H H' : Hp} {p q : Addr} {x : Cl × Int} {xs : List V} (s : But q H H') (hq : H q = some (.lst xs)) (h : IsCh K H p x) : IsCh K H' p x := by
  obtain ⟨pc, a, b⟩ := h.ex
  exact ⟨pc, s _ _ (fun z => by rw [z, hq] at a; cases a) a, b.but s hq⟩
structure IsChs (K : PySem.W.Frag) (H : Hp) (l : Addr) (xs : List (Addr × Cl × Int)) : Prop where
  at_ : H l = some (.lst (xs.map fun q => V.ref q.1))
  ch : ∀ q, q ∈ xs → IsCh K H q.1 q.2
theorem IsChs.same {K : PySem.W.Frag} {H H' : Hp} {l : Addr} {xs : List (Addr × Cl × Int)} (s : Same H H') (h : IsChs K H l xs) : IsChs K H' l xs := ⟨s _ _ h.at_, fun q hq => (h.ch q hq).same s⟩
theorem IsChs.but {K : PySem.W.Frag} {H H' : Hp} {l a : Addr} {xs : List (Addr × Cl × Int)} {ys : List V} (s : But a H H') (ha : H a = some (.lst ys)) (ne : l ≠ a) (h : IsChs K H l xs) : IsChs K H' l xs := ⟨s _ _ ne h.at_, fun q hq => (h.ch q hq).but s ha⟩
def kcOf (H : Hp) (p : Addr) : Addr := match H p with
  | some (.tup (.ref pc :: _)) => pc
  | _ => p
theorem IsCh.kc {K : PySem.W.Frag} {H : Hp} {p : Addr} {x : Cl × Int} (h : IsCh K H p x) : H p = some (.tup [.ref (kcOf H p), .int x.2]) ∧ IsCl K H (kcOf H p) x.1 := by
  obtain ⟨pc, a, b⟩ := h.ex
  have e : kcOf H p = pc := by
    unfold kcOf
    rw [a]
  rw [e]
  exact ⟨a, b⟩
theorem zj8 (ns : List Int) (lo hi : Option Int) : ∃ ms : List Int, cutV (ns.map V.int) lo hi = ms.map V.int := by
  unfold cutV
  refine ⟨(ns.drop (HT.sIx (ns.map V.int).length 0 lo)).take (HT.sIx (ns.map V.int).length (ns.map V.int).length hi - HT.sIx (ns.map V.int).length 0 lo), ?_⟩
  rw [List.map_take, List.map_drop]
structure ChOk (B : Int) (x : Cl × Int) : Prop where
  ok : x.1.Ok
  l0 : 0 ≤ x.2
  l1 : x.2 ≤ 12
  cm : x.1.came ≤ B
end L2
set_option Elab.async false
set_option linter.all false
set_option maxRecDepth 100000
set_option maxHeartbeats 4000000
namespace L2
open PySem PySem.Spec PyProof.Rows
def rnk (cs : List Cl) (t : Int) (c : Cl) : Nat := (cs.filter fun o => decide (o.n ≠ c.n) && ahd o c t).length
structure RkD (cs : List Cl) (t : Int) (h i : Nat) (kvs : List (Key × V)) : Prop where
  len : kvs.length = ((cs.take i).filter fun c => decide (rnk cs t c < h)).length
  val : ∀ (k : Nat) c, k < i → cs[k]? = some c → rnk cs t c < h → valV kvs (.inl (rnk cs t c : Int)) = some (.int c.n)
  key : ∀ j : Key, valV kvs j ≠ none → ∃ (k : Nat) (c : Cl), k < i ∧ cs[k]? = some c ∧ j = .inl (rnk cs t c : Int)
def zbq (ws : List Int) (x : Cl × Int) : Int := if x.1.n ∈ ws then x.2 - 1 else x.2
def behL (H : Hp) (ws : List Int) (xs : List (Addr × Cl × Int)) : List (Addr × Cl × Int) := (xs.map fun k => (kcOf H k.1, k.2.1, zbq ws k.2)).filter fun k => decide (0 < k.2.2)
structure IsBh (H : Hp) (l : Addr) (ys : List (Addr × Cl × Int)) (bs : List (Addr × List V)) : Prop where
  at_ : H l = some (.lst (bs.map fun b => V.ref b.1))
  rw : ∀ b, b ∈ bs → H b.1 = some (.tup b.2)
  eq : bs.map (·.2) = ys.map fun k => [V.ref k.1, V.int k.2.2]
theorem IsBh.same {H H' : Hp} {l : Addr} {ys : List (Addr × Cl × Int)} {bs : List (Addr × List V)} (s : Same H H') (h : IsBh H l ys bs) : IsBh H' l ys bs := ⟨s _ _ h.at_, fun b hb => s _ _ (h.rw b hb), h.eq⟩
theorem IsBh.len {H : Hp} {l : Addr} {ys : List (Addr × Cl × Int)} {bs : List (Addr × List V)} (h : IsBh H l ys bs) : bs.length = ys.length := by
  have := congrArg List.length h.eq
  rw [List.length_map, List.length_map] at this
  exact this
def zipB (bs : List (Addr × List V)) (ys : List (Addr × Cl × Int)) : List (Addr × Cl × Int) := List.zipWith (fun b k => (b.1, k.2)) bs ys
theorem IsBh.chs {K : PySem.W.Frag} {H : Hp} {l : Addr} {ys : List (Addr × Cl × Int)} {bs : List (Addr × List V)} (h : IsBh H l ys bs) (hc : ∀ k, k ∈ ys → IsCl K H k.1 k.2.1) :
    IsChs K H l (zipB bs ys) ∧ (zipB bs ys).map (·.2) = ys.map (·.2) := by
  have hl := h.len
  have e2 : (zipB bs ys).map (·.2) = ys.map (·.2) := by
    unfold zipB
    rw [List.map_zipWith]
    refine List.ext_getElem (by simp [hl]) fun i h1 h2 => ?_
    simp
  have e1 : ((zipB bs ys).map fun q => V.ref q.1) = bs.map fun b => V.ref b.1 := by
    unfold zipB
    rw [List.map_zipWith]
    refine List.ext_getElem (by simp [hl]) fun i h1 h2 => ?_
    simp
  refine ⟨⟨by rw [e1]; exact h.at_, fun q hq => ?_⟩, e2⟩
  obtain ⟨i, hi, ei⟩ := List.getElem_of_mem hq
  have hi2 : i < bs.length ∧ i < ys.length := by
    unfold zipB at hi
    rw [List.length_zipWith] at hi
    omega
  have eq : q = (bs[i].1, ys[i].2) := by
    have e3 : (zipB bs ys)[i]? = some (bs[i].1, ys[i].2) := by
      unfold zipB
      rw [List.getElem?_zipWith, List.getElem?_eq_getElem hi2.1, List.getElem?_eq_getElem hi2.2]
    rw [List.getElem?_eq_getElem hi, ei] at e3
    exact Option.some.inj e3
  have eb : bs[i].2 = [V.ref ys[i].1, V.int ys[i].2.2] := by
    have := congrArg (fun l : List (List V) => l[i]?) h.eq
    simp [hi2.1, hi2.2] at this
    exact this
  have hb := h.rw _ (List.getElem_mem hi2.1)
  rw [eb] at hb
  subst eq
  exact ⟨ys[i].1, hb, hc _ (List.getElem_mem hi2.2)⟩
end L2
namespace L2
open PySem PySem.Spec PyProof.Rows
theorem zkI {X : Cx} {K : PySem.W.Frag} (hK : X.K = K) : OpR X (compareOp .In) (rIn K false) := hK ▸ ziI
theorem Room.units1 {k : Nat} {A : Around} (r : Room k A) : A.units + 1 < cLine := by have := r.un; omega
theorem zlv {K : PySem.W.Frag} {H H' : Hp} {p : Addr} {x : Cl × Int} (h : IsCh K H p x) (s : Same H H') : kcOf H' p = kcOf H p := by
  obtain ⟨pc, a, _⟩ := h.ex
  unfold kcOf
  rw [a, s _ _ a]
theorem zf4 {K : PySem.W.Frag} {H H' : Hp} {l : Addr} {xs : List (Addr × Cl × Int)} (h : IsChs K H l xs) (s : Same H H') (ws : List Int) : behL H' ws xs = behL H ws xs := by
  unfold behL
  congr 1
  exact List.map_congr_left fun k hk => by rw [zlv (h.ch k hk) s]
def zds (t : Int) (k : Addr × Cl × Int) : Bool := decide (0 < k.2.2) && decide (k.2.1.came ≤ t)
def zcD (H : Hp) (t : Int) (xs : List (Addr × Cl × Int)) : List (Addr × Cl) := (xs.filter (zds t)).map fun k => (kcOf H k.1, k.2.1)
def csOf (t : Int) (xs : List (Addr × Cl × Int)) : List Cl := (xs.filter (zds t)).map (·.2.1)
theorem zdH (H : Hp) (t : Int) (xs : List (Addr × Cl × Int)) : (zcD H t xs).map (·.2) = csOf t xs := by
  unfold zcD csOf
  rw [List.map_map]
  rfl
def zbH (t : Int) (h : Nat) (xs : List (Addr × Cl × Int)) : List Int := ((ord (csOf t xs) t).map (·.n)).take h
theorem zjd {t : Int} {xs : List (Addr × Cl × Int)} (ok : ∀ q, q ∈ xs → q.2.1.Ok) (nd : (xs.map (·.2.1.n)).Nodup) : Good (csOf t xs) := by
  refine ⟨fun c hc => ?_, ?_⟩
  · obtain ⟨k, hk, rfl⟩ := List.mem_map.mp hc
    exact ok k (List.mem_filter.mp hk).1
  · unfold csOf
    rw [List.map_map]
    exact nd.sublist (List.Sublist.map _ List.filter_sublist)
theorem zfa (H : Hp) (t : Int) (xs : List (Addr × Cl × Int)) : (zcD H t xs).length ≤ xs.length := by
  unfold zcD
  rw [List.length_map]
  exact List.length_filter_le _ _
theorem zf5 {K : PySem.W.Frag} {H : Hp} {l : Addr} {xs : List (Addr × Cl × Int)} (h : IsChs K H l xs) (t : Int) {q : Addr × Cl} (hq : q ∈ zcD H t xs) : IsCl K H q.1 q.2 := by
  obtain ⟨k, hk, rfl⟩ := List.mem_map.mp hq
  exact (h.ch k (List.mem_filter.mp hk).1).kc.2
theorem zeE (H : Hp) (t : Int) (xs : List (Addr × Cl × Int)) : (zcD H t xs).map (fun q => V.ref q.1) = (xs.filter (zds t)).map fun k => V.ref (kcOf H k.1) := by
  unfold zcD
  rw [List.map_map]
  rfl
theorem zhr {H : Hp} {ws : List Int} {xs : List (Addr × Cl × Int)} {k : Addr × Cl × Int} (h : k ∈ behL H ws xs) : ∃ q, q ∈ xs ∧ k = (kcOf H q.1, q.2.1, zbq ws q.2) ∧ 0 < zbq ws q.2 := by
  obtain ⟨h1, h2⟩ := List.mem_filter.mp h
  obtain ⟨q, hq, rfl⟩ := List.mem_map.mp h1
  exact ⟨q, hq, rfl, of_decide_eq_true h2⟩
theorem zlw {H : Hp} {ws : List Int} {xs : List (Addr × Cl × Int)} (nd : (xs.map (·.2.1.n)).Nodup) : ((behL H ws xs).map (·.2.1.n)).Nodup := by
  have e : ((xs.map fun k => (kcOf H k.1, k.2.1, zbq ws k.2)).map (·.2.1.n)) = xs.map (·.2.1.n) := by
    rw [List.map_map]
    rfl
  rw [← e] at nd
  exact nd.sublist (List.Sublist.map _ List.filter_sublist)
theorem zj9 (H : Hp) (ws : List Int) (xs : List (Addr × Cl × Int)) : (behL H ws xs).length ≤ xs.length := by
  have := List.length_filter_le (fun k : Addr × Cl × Int => decide (0 < k.2.2)) (xs.map fun k => (kcOf H k.1, k.2.1, zbq ws k.2))
  rw [List.length_map] at this
  exact this
end L2
namespace L2
open PySem PySem.Spec PyProof.Rows
def plV : List V → Bool
  | [_, .int i] => decide (0 < i)
  | _ => false
theorem zml {H : Hp} {ws : List Int} {xs : List (Addr × Cl × Int)} {bs : List (Addr × List V)} (eb : bs.map (·.2) = xs.map fun k => [V.ref (kcOf H k.1), V.int (zbq ws k.2)]) :
    (bs.filter fun b => plV b.2).map (·.2) = (behL H ws xs).map fun k => [V.ref k.1, V.int k.2.2] := by
  have e : (bs.filter fun b => plV b.2).map (·.2) = (bs.map (·.2)).filter plV := by
    rw [List.filter_map]
    rfl
  rw [e, eb, List.filter_map]
  unfold behL
  rw [List.filter_map, List.map_map]
  rfl
theorem zfq {α : Type} (xs : List α) : (xs.filter fun _ => true) = xs := List.filter_eq_self.mpr fun _ _ => rfl
end L2
namespace L2
open PySem PySem.Spec PyProof.Rows
end L2
set_option Elab.async false
set_option linter.all false
set_option maxRecDepth 100000
set_option maxHeartbeats 4000000
namespace L2
open PySem PySem.Spec PyProof.Rows
structure FunD (K : PySem.W.Frag) (x qual : Str) (st : Stmt) (f : Addr) (fd : FuncData) : Prop where
  ex : ∃ (oc : Value) (od : Option Addr) (T : Addr) (kV doc pm : Value) (an : Option Addr) (cdv ct : Value) (osl : Array (Option Value)) (o : Obj) (n : Nat),
    fd = PySem.W.fnOf x qual (zan st) (zaj st) (zad st) (.ref T) kV doc pm an cdv ct ∧ K.lookup f = some ⟨oc, od, .func fd, osl⟩ ∧ PySem.W.codeIn K cdv qual = true ∧ K.lookup T = some o ∧ o.data = .seq #[.none] n
  kp : PySem.W.keepIn K (.ref f) = true
theorem zlx {K : PySem.W.Frag} {x qual : Str} {st : Stmt} {f T : Addr} {oc : Value} {od an : Option Addr} {osl : Array (Option Value)} {kV doc pm cdv ct : Value} {o : Obj} {n : Nat}
    (l : K.lookup f = some ⟨oc, od, .func (PySem.W.fnOf x qual (zan st) (zaj st) (zad st) (.ref T) kV doc pm an cdv ct), osl⟩) (c : PySem.W.codeIn K cdv qual = true) (k : PySem.W.keepIn K (.ref f) = true)
    (t : K.lookup T = some o) (d : o.data = .seq #[.none] n) : FunD K x qual st f (PySem.W.fnOf x qual (zan st) (zaj st) (zad st) (.ref T) kV doc pm an cdv ct) := ⟨⟨oc, od, T, kV, doc, pm, an, cdv, ct, osl, o, n, rfl, l, c, t, d⟩, k⟩
theorem FunD.ok {P : Program} {w : World} {K : PySem.W.Frag} {mg : Str → Option Value} {base : Heap} {x qual : Str} {st : Stmt} {f : Addr} {fd : FuncData} {N ps : List Str} {k : Nat} {sp : Sp} (F : FunD K x qual st f fd) (S : FnScope N ps (zad st)) (len : ∀ vs H Q E, sp vs H Q E → vs.length = ps.length)
    (hbody : ∀ (cdv : Value) (A : Around) (outer : List Env) (s : Shared) (H : Hp) (vs : List V) (Q : VK) (E : XK), Room k (A.deeper (envOfC qual (zad st) s.heap.objs.size f cdv)) → sp vs H Q E →
      ∃ t, PSs (cxOf CX0 P w K mg base N qual (zad st) f cdv A outer s H E).nox (zaj st) t ∧ t { nx := fun _ H' => Q .non H', rt := Q } (zeo N vs) H) : FnOk P w K mg base CX0 (k + 1) f fd ps sp := by
  obtain ⟨oc, od, T, kV, doc, pm, an, cdv, ct, osl, o, n, rfl, lk, hcd, _, _⟩ := F.ex
  refine zjJ lk hcd S len fun A outer s H vs Q E hr hsp => ?_
  obtain ⟨t, h, q⟩ := hbody cdv A outer s H vs Q E hr hsp
  exact ⟨t, h.nox, q⟩
theorem FunD.binds {K : PySem.W.Frag} {x qual : Str} {st : Stmt} {f : Addr} {fd : FuncData} {ps : List Str} (F : FunD K x qual st f fd)
    (h : ∀ (dV kV doc pm : Value) (an : Option Addr) (cdv ct : Value) (us : List Value), us.length = ps.length → ∃ k : Option (Array Value) → Sem (List (Str × Value)), bindArgs (PySem.W.fnOf x qual (zan st) (zaj st) (zad st) dV kV doc pm an cdv ct) ⟨us, []⟩ = (seqItems? dV >>= k) ∧ k (some #[.none]) = pure (ps.zip us)) : zb6 K fd ps [] := by
  obtain ⟨oc, od, T, kV, doc, pm, an, cdv, ct, osl, o, n, rfl, lk, hcd, t, d⟩ := F.ex
  intro s us KX hl
  obtain ⟨k, k1, k2⟩ := h (.ref T) kV doc pm an cdv ct us (by simpa using hl)
  exact BindsTo.of_defaults (T := T) (o := o) (items := #[.none]) (n := n) (k := k) rfl (KX T o t) d k1 (by rw [k2, List.append_nil])
theorem FunD.bindsD {K : PySem.W.Frag} {x qual : Str} {st : Stmt} {f : Addr} {fd : FuncData} {ps : List Str} (F : FunD K x qual st f fd)
    (h : ∀ (dV kV doc pm : Value) (an : Option Addr) (cdv ct : Value) (us : List Value), (us ++ [Value.none]).length = ps.length → ∃ k : Option (Array Value) → Sem (List (Str × Value)), bindArgs (PySem.W.fnOf x qual (zan st) (zaj st) (zad st) dV kV doc pm an cdv ct) ⟨us, []⟩ = (seqItems? dV >>= k) ∧ k (some #[.none]) = pure (ps.zip (us ++ [.none]))) : zb6 K fd ps [.none] := by
  obtain ⟨oc, od, T, kV, doc, pm, an, cdv, ct, osl, o, n, rfl, lk, hcd, t, d⟩ := F.ex
  intro s us KX hl
  obtain ⟨k, k1, k2⟩ := h (.ref T) kV doc pm an cdv ct us hl
  exact BindsTo.of_defaults (T := T) (o := o) (items := #[.none]) (n := n) (k := k) rfl (KX T o t) d k1 k2
structure DfnD (K : PySem.W.Frag) (mg : Str → Option Value) (x : Str) (st : Stmt) (ps : List Str) (f : Addr) (fd : FuncData) : Prop where
  F : FunD K x x st f fd
  b : zb6 K fd ps []
  bd : zb6 K fd ps [.none]
  m : mg x = some (.ref f)
structure CalD (P : Program) (w : World) (K : PySem.W.Frag) (mg : Str → Option Value) (base : Heap) (x : Str) (k : Nat) (ps : List Str) (sp : Sp) : Prop where
  ex : ∃ f fd, FnOk P w K mg base CX0 k f fd ps sp ∧ zb6 K fd ps [] ∧ zb6 K fd ps [.none] ∧ mg x = some (.ref f) ∧ PySem.W.keepIn K (.ref f) = true
theorem DfnD.cal {P : Program} {w : World} {K : PySem.W.Frag} {mg : Str → Option Value} {base : Heap} {x : Str} {st : Stmt} {ps : List Str} {f : Addr} {fd : FuncData} {k : Nat} {sp : Sp}
    (D : DfnD K mg x st ps f fd) (G : FnOk P w K mg base CX0 k f fd ps sp) : CalD P w K mg base x k ps sp := ⟨⟨f, fd, G, D.b, D.bd, D.m, D.F.kp⟩⟩
section
variable {X : Cx} {k : Nat} {ps : List Str} {sp : Sp} {x : Str} {p pos : Pos} {e : Expr} {es : List Expr} {t : TA}
theorem zly (C : CalD X.prog X.w X.K X.mg X.base x k ps sp) (hr : Room k X.A) (hg : Gl X x) (ha : PA X (e :: es) t) (hdb : (x == ("__debug__" : Str)) = false := by decide)
    (he : starEach (e :: es) X.env = (false, eval e X.env) :: starEach es X.env := by rfl) (hpl : (backTo pos (starEach es X.env)).any (·.1) = false := by rfl) :
    PE X (.Call (.Name x p) (e :: es) [] pos) (zjI sp [.non] E0 t) := by
  obtain ⟨f, fd, G, _, b, m, kp⟩ := C.ex
  exact zgw G hr hg m kp b (.cons rfl .nil) zl2 ha hdb he hpl
end
end L2
set_option Elab.async false
set_option linter.all false
set_option maxRecDepth 100000
set_option maxHeartbeats 4000000
namespace L2
open PySem PySem.Spec PyProof.Rows
abbrev Ch := List (Cl × Int)
def csC (t : Int) (c : Ch) : List Cl := (c.filter fun k => decide (0 < k.2) && decide (k.1.came ≤ t)).map (·.1)
def wkC (t : Int) (h : Nat) (c : Ch) : List Int := ((ord (csC t c) t).map (·.n)).take h
def bhC (ws : List Int) (c : Ch) : Ch := (c.map fun k => (k.1, zbq ws k)).filter fun k => decide (0 < k.2)
theorem zmm (t : Int) (xs : List (Addr × Cl × Int)) : csOf t xs = csC t (xs.map (·.2)) := by
  unfold csOf csC
  rw [List.filter_map, List.map_map]
  rfl
theorem zdQ (t : Int) (h : Nat) (xs : List (Addr × Cl × Int)) : zbH t h xs = wkC t h (xs.map (·.2)) := by
  unfold zbH wkC
  rw [zmm]
theorem zmn (H : Hp) (ws : List Int) (xs : List (Addr × Cl × Int)) : (behL H ws xs).map (·.2) = bhC ws (xs.map (·.2)) := by
  unfold behL bhC
  rw [List.filter_map, List.filter_map, List.map_map, List.filter_map, List.map_map]
  rfl
def runN (h : Nat) : Nat → Int → Ch → List (Int × List Int) × Ch
  | 0, _, c => ([], c)
  | n + 1, t, c => let r := runN h n t c; (r.1 ++ [(t + n, wkC (t + n) h r.2)], bhC (wkC (t + n) h r.2) r.2)
def sumC (c : Ch) : Nat := (c.map fun k => k.2.toNat).sum
theorem zc7 {ws : List Int} {c : Ch} {k : Cl × Int} (h : k ∈ bhC ws c) : 0 < k.2 := of_decide_eq_true (List.mem_filter.mp h).2
theorem zje (ws : List Int) : ∀ c : Ch, sumC (bhC ws c) ≤ sumC c
  | [] => Nat.le_refl _
  | k :: c => by
    have ih := zje ws c
    have e : bhC ws (k :: c) = (if decide (0 < zbq ws k) = true then [(k.1, zbq ws k)] else []) ++ bhC ws c := by
      unfold bhC
      rw [List.map_cons, List.filter_cons]
      split <;> rfl
    rw [e]
    have le : zbq ws k ≤ k.2 := by
      unfold zbq
      split <;> omega
    unfold sumC at *
    split
    · simp
      omega
    · simp
      omega
theorem zkJ {ws : List Int} : ∀ {c : Ch} {k : Cl × Int}, k ∈ c → 0 < k.2 → k.1.n ∈ ws → sumC (bhC ws c) < sumC c
  | j :: c, k, hk, pos, hw => by
    have ih := zje ws c
    have e : bhC ws (j :: c) = (if decide (0 < zbq ws j) = true then [(j.1, zbq ws j)] else []) ++ bhC ws c := by
      unfold bhC
      rw [List.map_cons, List.filter_cons]
      split <;> rfl
    rw [e]
    have le : zbq ws j ≤ j.2 := by
      unfold zbq
      split <;> omega
    rcases List.mem_cons.mp hk with rfl | hk
    · have lt : zbq ws k = k.2 - 1 := by
        unfold zbq
        rw [if_pos hw]
      unfold sumC at *
      split
      · simp
        omega
      · simp
        omega
    · have ih2 := zkJ hk pos hw
      unfold sumC at *
      split
      · simp
        omega
      · simp
        omega
theorem zhs {t : Int} {h : Nat} {c : Ch} (h0 : 0 < h) (hc : c ≠ []) (pos : ∀ k, k ∈ c → 0 < k.2) (cm : ∀ k, k ∈ c → k.1.came ≤ 1000) : sumC (bhC (wkC t h c) c) + (1001 - (t + 1)).toNat < sumC c + (1001 - t).toNat := by
  by_cases e : csC t c = []
  ·
    have late : t < 1000 := by
      cases c with
      | nil => exact (hc rfl).elim
      | cons k c =>
        have : k ∉ (k :: c).filter fun k => decide (0 < k.2) && decide (k.1.came ≤ t) := fun z => by
          have : k.1 ∈ csC t (k :: c) := List.mem_map.mpr ⟨k, z, rfl⟩
          rw [e] at this
          cases this
        have p := pos k List.mem_cons_self
        have q := cm k List.mem_cons_self
        refine Int.not_le.mp fun z => this (List.mem_filter.mpr ⟨List.mem_cons_self, ?_⟩)
        rw [decide_eq_true p, decide_eq_true (show k.1.came ≤ t by omega)]
        rfl
    have := zje (wkC t h c) c
    omega
  · have lo : (ord (csC t c) t).length = (csC t c).length := (zdG _ _).length_eq
    have lp : 0 < (csC t c).length := List.length_pos_iff.mpr e
    obtain ⟨x, xs, eo⟩ := List.exists_cons_of_ne_nil (show ord (csC t c) t ≠ [] from fun z => by rw [z] at lo; simp at lo; omega)
    have hm : x.n ∈ wkC t h c := by
      unfold wkC
      rw [eo]
      cases h with
      | zero => omega
      | succ h => simp
    have mem : x ∈ csC t c := (zdG (csC t c) t).mem_iff.mp (by rw [eo]; exact List.mem_cons_self)
    obtain ⟨k, hk, ek⟩ := List.mem_map.mp mem
    rw [← ek] at hm
    have hk := (List.mem_filter.mp hk).1
    have := zkJ (ws := wkC t h c) hk (pos k hk) hm
    omega
end L2
namespace L2
open PySem PySem.Spec PyProof.Rows
theorem zfr (c : Ch) : bhC [] c = c.filter fun k => decide (0 < k.2) := by
  unfold bhC
  have e : (c.map fun k => (k.1, zbq [] k)) = c := by
    have : ∀ k : Cl × Int, (k.1, zbq [] k) = k := fun k => by
      unfold zbq
      rw [if_neg (by simp)]
    rw [show (fun k : Cl × Int => (k.1, zbq [] k)) = id from funext this, List.map_id]
  rw [e]
theorem zaK (h n : Nat) (t : Int) (c : Ch) : runN h (n + 1) t c = ((runN h n t c).1 ++ [(t + n, wkC (t + n) h (runN h n t c).2)], bhC (wkC (t + n) h (runN h n t c).2) (runN h n t c).2) := rfl
theorem zcw (h : Nat) (t : Int) (c : Ch) : ∀ n, (runN h n t c).1.length = n
  | 0 => rfl
  | n + 1 => by
    rw [zaK, List.length_append, zcw h t c n]
    rfl
structure IsRun (H : Hp) (l : Addr) (rs : List (Addr × Addr × Int × List Int)) : Prop where
  at_ : H l = some (.lst (rs.map fun r => V.ref r.1))
  row : ∀ r, r ∈ rs → H r.1 = some (.tup [.int r.2.2.1, .ref r.2.1])
  num : ∀ r, r ∈ rs → H r.2.1 = some (.lst (r.2.2.2.map V.int))
theorem IsRun.same {H H' : Hp} {l : Addr} {rs : List (Addr × Addr × Int × List Int)} (s : Same H H') (h : IsRun H l rs) : IsRun H' l rs := ⟨s _ _ h.at_, fun r hr => s _ _ (h.row r hr), fun r hr => s _ _ (h.num r hr)⟩
theorem IsRun.app {H H' : Hp} {l p m : Addr} {rs : List (Addr × Addr × Int × List Int)} {t : Int} {ws : List Int} (h : IsRun H l rs) (k : But l H H') (e : H' l = some (.lst ((rs.map fun r => V.ref r.1) ++ [.ref p]))) (hp : H p = some (.tup [.int t, .ref m])) (hm : H m = some (.lst (ws.map V.int)))
    (ne : m ≠ l) (nl : ∀ r, r ∈ rs → r.2.1 ≠ l) : IsRun H' l (rs ++ [(p, m, t, ws)]) := by
  have np : ∀ q ys, H q = some (.tup ys) → q ≠ l := fun q ys g z => by
    rw [z, h.at_] at g
    cases g
  refine ⟨by rw [e, List.map_append]; rfl, fun r hr => ?_, fun r hr => ?_⟩
  · rcases List.mem_append.mp hr with hr | hr
    · exact k _ _ (np _ _ (h.row r hr)) (h.row r hr)
    · rw [List.mem_singleton.mp hr]
      exact k _ _ (np _ _ hp) hp
  · rcases List.mem_append.mp hr with hr | hr
    · exact k _ _ (nl r hr) (h.num r hr)
    · rw [List.mem_singleton.mp hr]
      exact k _ _ ne hm
end L2
set_option Elab.async false
set_option linter.all false
set_option maxRecDepth 100000
set_option maxHeartbeats 4000000
namespace L2
open PySem PySem.Spec PyProof.Rows
section
variable {X : Cx} {tg : Expr}
end
section
variable {X : Cx}
end
end L2
set_option Elab.async false
set_option linter.all false
set_option maxRecDepth 100000
set_option maxHeartbeats 4000000
namespace L2
open PySem PySem.Spec PyProof.Rows
def dI (L : List (Int × Int)) : List (Key × V) := L.map fun p => (.inl p.1, V.int p.2)
def valI (L : List (Int × Int)) (k : Int) : Option Int := (L.find? fun p => decide (p.1 = k)).map (·.2)
def putI (L : List (Int × Int)) (k v : Int) : List (Int × Int) := if (L.any fun p => decide (p.1 = k)) = true then L.map (fun p => if p.1 = k then (p.1, v) else p) else L ++ [(k, v)]
theorem zjf (L : List (Int × Int)) (k : Int) : valV (dI L) (.inl k) = (valI L k).map V.int := by
  induction L with
  | nil => rfl
  | cons p L ih =>
    unfold dI valI at *
    rw [List.map_cons]
    by_cases e : p.1 = k
    · rw [zbt (by rw [e]), List.find?_cons_of_pos (by simp [e])]
      rfl
    · rw [zbu (fun z => e (Sum.inl.inj z)), List.find?_cons_of_neg (by simp [e])]
      exact ih
theorem zmo (L : List (Int × Int)) (k : Int) : ((dI L).any fun kv => decide (kv.1 = .inl k)) = L.any fun p => decide (p.1 = k) := by
  induction L with
  | nil => rfl
  | cons p L ih =>
    unfold dI at *
    rw [List.map_cons, List.any_cons, List.any_cons, ih]
    congr 1
    by_cases e : p.1 = k
    · simp [e]
    · rw [decide_eq_false e]
      exact decide_eq_false fun z => e (Sum.inl.inj z)
theorem zkK (L : List (Int × Int)) (k v : Int) : putK (dI L) (.inl k) (.int v) = dI (putI L k v) := by
  unfold putK putI
  rw [zmo]
  by_cases c : (L.any fun p => decide (p.1 = k)) = true
  · rw [if_pos c, if_pos c]
    unfold dI
    rw [List.map_map, List.map_map]
    refine List.map_congr_left fun p _ => ?_
    show (if (Sum.inl p.1 : Key) = .inl k then _ else _) = _
    by_cases e : p.1 = k
    · rw [if_pos (by rw [e])]
      show _ = (fun q : Int × Int => ((Sum.inl q.1 : Key), V.int q.2)) (if p.1 = k then (p.1, v) else p)
      rw [if_pos e]
    · rw [if_neg (fun z => e (Sum.inl.inj z))]
      show _ = (fun q : Int × Int => ((Sum.inl q.1 : Key), V.int q.2)) (if p.1 = k then (p.1, v) else p)
      rw [if_neg e]
  · rw [if_neg c, if_neg c]
    unfold dI
    rw [List.map_append]
    rfl
theorem zmp (L : List (Int × Int)) : (dI L).length = L.length := List.length_map _
theorem zka (L : List (Int × Int)) (k v : Int) : (putI L k v).length ≤ L.length + 1 := by
  unfold putI
  split
  · rw [List.length_map]
    omega
  · rw [List.length_append]
    exact Nat.le_refl _
def zc8 (t : Int) : List Int → List (Int × Int) → List (Int × Int)
  | [], L => L
  | n :: ns, L => zc8 t ns (putI L n t)
def zcY : List (Int × List Int) → List (Int × Int) → List (Int × Int)
  | [], L => L
  | r :: rs, L => zcY rs (zc8 r.1 r.2 L)
theorem zfb (t n : Int) : ∀ (ns : List Int) (L : List (Int × Int)), zc8 t (ns ++ [n]) L = putI (zc8 t ns L) n t
  | [], L => rfl
  | m :: ns, L => zfb t n ns (putI L m t)
theorem zfc (r : Int × List Int) : ∀ (rs : List (Int × List Int)) (L : List (Int × Int)), zcY (rs ++ [r]) L = zc8 r.1 r.2 (zcY rs L)
  | [], L => rfl
  | q :: rs, L => zfc r rs (zc8 q.1 q.2 L)
theorem zeF (t : Int) : ∀ (ns : List Int) (L : List (Int × Int)), (zc8 t ns L).length ≤ L.length + ns.length
  | [], L => Nat.le_refl _
  | n :: ns, L => by
    have a := zeF t ns (putI L n t)
    have b := zka L n t
    show (zc8 t ns (putI L n t)).length ≤ _
    rw [List.length_cons]
    omega
theorem zf6 {B : Nat} : ∀ (rs : List (Int × List Int)) (L : List (Int × Int)), (∀ r, r ∈ rs → r.2.length ≤ B) → (zcY rs L).length ≤ L.length + B * rs.length
  | [], L, _ => Nat.le_refl _
  | r :: rs, L, h => by
    have a := zf6 rs (zc8 r.1 r.2 L) fun q hq => h q (List.mem_cons_of_mem _ hq)
    have b := zeF r.1 r.2 L
    have c := h r List.mem_cons_self
    show (zcY rs (zc8 r.1 r.2 L)).length ≤ _
    rw [List.length_cons, Nat.mul_succ]
    omega
theorem zmq {H : Hp} {a : Addr} {L : List (Int × Int)} (h : Rd H a (.dK (dI L))) (k : Int) : DGet H a (.int k) ((valI L k).map V.int) := .inl ⟨_, .inl k, h, rfl, (zjf L k).symm⟩
theorem zlz {ws : List Int} {c : Ch} {j : Int} (h : j ∈ (bhC ws c).map (·.1.n)) : j ∈ c.map (·.1.n) := by
  obtain ⟨k, hk, rfl⟩ := List.mem_map.mp h
  obtain ⟨q, hq, rfl⟩ := List.mem_map.mp (List.mem_filter.mp hk).1
  exact List.mem_map.mpr ⟨q, hq, rfl⟩
theorem zlA {t : Int} {h : Nat} {c : Ch} {j : Int} (hj : j ∈ wkC t h c) : j ∈ c.map (·.1.n) := by
  obtain ⟨d, hd, rfl⟩ := List.mem_map.mp (List.mem_of_mem_take hj)
  obtain ⟨k, hk, rfl⟩ := List.mem_map.mp ((zdG _ _).mem_iff.mp hd)
  exact List.mem_map.mpr ⟨k, (List.mem_filter.mp hk).1, rfl⟩
theorem zjg {h : Nat} {b : Int} {c : Ch} : ∀ n, (∀ j, j ∈ (runN h n b c).2.map (·.1.n) → j ∈ c.map (·.1.n)) ∧ ∀ r, r ∈ (runN h n b c).1 → ∀ j, j ∈ r.2 → j ∈ c.map (·.1.n)
  | 0 => ⟨fun _ h => h, fun r hr => by cases hr⟩
  | n + 1 => by
    obtain ⟨h1, h2⟩ := zjg (h := h) (b := b) (c := c) n
    rw [zaK]
    refine ⟨fun j hj => h1 j (zlz hj), fun r hr j hj => ?_⟩
    rcases List.mem_append.mp hr with hr | hr
    · exact h2 r hr j hj
    · rw [List.mem_singleton.mp hr] at hj
      exact h1 j (zlA hj)
end L2
set_option Elab.async false
set_option linter.all false
set_option maxRecDepth 100000
set_option maxHeartbeats 4000000
namespace L2
open PySem PySem.Spec PyProof.Rows
section
variable {X : Cx} {pins : List (Addr × Obj)} {σ : St} {H : Hp} {s : Shared}
end
section
variable {X : Cx}
end
end L2
set_option Elab.async false
set_option linter.all false
set_option maxRecDepth 100000
set_option maxHeartbeats 4000000
namespace L2
open PySem PySem.Spec PyProof.Rows
structure GdC (c : Ch) : Prop where
  ok : ∀ k, k ∈ c → k.1.Ok
  nd : (c.map (·.1.n)).Nodup
theorem zmr {ws : List Int} {c : Ch} {j : Cl × Int} (hj : j ∈ c) (h : 0 < zbq ws j) : (j.1, zbq ws j) ∈ bhC ws c :=
  List.mem_filter.mpr ⟨List.mem_map.mpr ⟨j, hj, rfl⟩, decide_eq_true h⟩
inductive Hist (h : Nat) (b : Int) (c0 : Ch) : Nat → List (Int × List Int) → Ch → Prop
  | zero : Hist h b c0 0 [] c0
  | succ {n : Nat} {rs : List (Int × List Int)} {c : Ch} {h' : Nat} : Hist h b c0 n rs c → h ≤ h' → Hist h b c0 (n + 1) (rs ++ [(b + n, wkC (b + n) h' c)]) (bhC (wkC (b + n) h' c) c)
theorem zeG {h : Nat} {b : Int} {d : Ch} {j : Int} : ∀ (q m : Nat), j ∈ (runN h m b d).2.map (·.1.n) → (∀ k, k ∈ (runN h m b d).2 → 0 < k.2) → (runN h (m + q) b d).2 = [] → ∃ i, m ≤ i ∧ i < m + q ∧ j ∈ wkC (b + i) h (runN h i b d).2
  | 0, m, hj, _, e => by
    rw [Nat.add_zero] at e
    rw [e] at hj
    cases hj
  | q + 1, m, hj, pos, e => by
    by_cases w : j ∈ wkC (b + m) h (runN h m b d).2
    · exact ⟨m, Nat.le_refl _, by omega, w⟩
    · obtain ⟨k, hk, ek⟩ := List.mem_map.mp hj
      have hj' : j ∈ (runN h (m + 1) b d).2.map (·.1.n) := by
        rw [zaK]
        have lk : zbq (wkC (b + m) h (runN h m b d).2) k = k.2 := if_neg (by rw [ek]; exact w)
        exact List.mem_map.mpr ⟨_, zmr hk (by rw [lk]; exact pos k hk), ek⟩
      have pos' : ∀ k, k ∈ (runN h (m + 1) b d).2 → 0 < k.2 := by
        rw [zaK]
        exact fun k hk => zc7 hk
      obtain ⟨i, a1, a2, a3⟩ := zeG q (m + 1) hj' pos' (by rw [show m + 1 + q = m + (q + 1) by omega]; exact e)
      exact ⟨i, by omega, by omega, a3⟩
theorem zek {h : Nat} {b : Int} {d : Ch} {i : Nat} : ∀ {n : Nat}, i < n → (b + i, wkC (b + i) h (runN h i b d).2) ∈ (runN h n b d).1
  | n + 1, hi => by
    rw [zaK]
    by_cases e : i = n
    · subst e
      exact List.mem_append.mpr (.inr (List.mem_singleton.mpr rfl))
    · exact List.mem_append.mpr (.inl (zek (by omega)))
theorem zjh {h : Nat} {b : Int} {d : Ch} : ∀ n, (runN h n b d).1.Pairwise (fun r q => r.1 < q.1) ∧ ∀ r, r ∈ (runN h n b d).1 → r.1 < b + n
  | 0 => ⟨.nil, fun r hr => by cases hr⟩
  | n + 1 => by
    obtain ⟨p, u⟩ := zjh (h := h) (b := b) (d := d) n
    rw [zaK]
    refine ⟨List.pairwise_append.mpr ⟨p, List.pairwise_singleton _ _, fun r hr q hq => ?_⟩, fun r hr => ?_⟩
    · rw [List.mem_singleton.mp hq]
      exact u r hr
    · rcases List.mem_append.mp hr with hr | hr
      · have := u r hr
        omega
      · rw [List.mem_singleton.mp hr]
        show b + (n : Int) < b + ((n + 1 : Nat) : Int)
        omega
theorem zkb {L : List (Int × Int)} {k v j : Int} : valI (putI L k v) j = if j = k then some v else valI L j := by
  have h := zjK (dI L) (.inl k) (.inl j) (V.int v)
  rw [zkK, zjf, zjf] at h
  by_cases e : j = k
  · rw [if_pos (by rw [e])] at h
    rw [if_pos e]
    cases z : valI (putI L k v) j with
    | none => rw [z] at h; cases h
    | some u => rw [z] at h; cases h; rfl
  · rw [if_neg (fun z => e (Sum.inl.inj z))] at h
    rw [if_neg e]
    cases z : valI (putI L k v) j with
    | none =>
      rw [z] at h
      cases y : valI L j with
      | none => rfl
      | some u => rw [y] at h; cases h
    | some w =>
      rw [z] at h
      cases y : valI L j with
      | none => rw [y] at h; cases h
      | some u => rw [y] at h; cases h; rfl
theorem zc9 {t j : Int} : ∀ {ns : List Int} {L : List (Int × Int)}, valI (zc8 t ns L) j = if j ∈ ns then some t else valI L j
  | [], L => by simp [zc8]
  | n :: ns, L => by
    show valI (zc8 t ns (putI L n t)) j = _
    rw [zc9 (ns := ns), zkb]
    by_cases a : j ∈ ns
    · rw [if_pos a, if_pos (List.mem_cons_of_mem _ a)]
    · rw [if_neg a]
      by_cases e : j = n
      · rw [if_pos e, if_pos (by rw [e]; exact List.mem_cons_self)]
      · rw [if_neg e, if_neg (fun z => (List.mem_cons.mp z).elim e a)]
theorem zf7 {j v : Int} : ∀ {rs : List (Int × List Int)} {L : List (Int × Int)}, valI (zcY rs L) j = some v → valI L j = some v ∨ ∃ r, r ∈ rs ∧ r.1 = v ∧ j ∈ r.2
  | [], L, h => .inl h
  | r :: rs, L, h => by
    rcases zf7 (rs := rs) h with h | ⟨q, hq, e, hj⟩
    · rw [zc9] at h
      by_cases a : j ∈ r.2
      · rw [if_pos a] at h
        exact .inr ⟨r, List.mem_cons_self, Option.some.inj h, a⟩
      · rw [if_neg a] at h
        exact .inl h
    · exact .inr ⟨q, List.mem_cons_of_mem _ hq, e, hj⟩
theorem zdl {j : Int} : ∀ {rs : List (Int × List Int)} {L : List (Int × Int)} {v : Int}, rs.Pairwise (fun r q => r.1 < q.1) → (valI L j = some v ∧ (∀ r, r ∈ rs → v ≤ r.1)) ∨ (∃ r, r ∈ rs ∧ r.1 = v ∧ j ∈ r.2) → ∃ u, valI (zcY rs L) j = some u ∧ v ≤ u
  | [], L, v, _, h => by
    rcases h with ⟨h, _⟩ | ⟨r, hr, _⟩
    · exact ⟨v, h, Int.le_refl _⟩
    · cases hr
  | r :: rs, L, v, p, h => by
    rw [List.pairwise_cons] at p
    show ∃ u, valI (zcY rs (zc8 r.1 r.2 L)) j = some u ∧ v ≤ u
    rcases h with ⟨h, le⟩ | ⟨q, hq, e, hj⟩
    · have lr := le r List.mem_cons_self
      by_cases a : j ∈ r.2
      · obtain ⟨u, h1, h2⟩ := zdl (rs := rs) (L := zc8 r.1 r.2 L) (v := r.1) p.2 (.inl ⟨by rw [zc9, if_pos a], fun q hq => Int.le_of_lt (p.1 q hq)⟩)
        exact ⟨u, h1, by omega⟩
      · exact zdl p.2 (.inl ⟨by rw [zc9, if_neg a]; exact h, fun q hq => le q (List.mem_cons_of_mem _ hq)⟩)
    · rcases List.mem_cons.mp hq with z | hq
      · subst z
        refine zdl p.2 (.inl ⟨by rw [zc9, if_pos hj, e], fun q hq => ?_⟩)
        rw [← e]
        exact Int.le_of_lt (p.1 q hq)
      · exact zdl p.2 (.inr ⟨q, hq, e, hj⟩)
section
variable {X : Cx} {pins : List (Addr × Obj)} {σ : St} {H : Hp} {s : Shared}
end
end L2
set_option Elab.async false
set_option linter.all false
set_option maxRecDepth 100000
set_option maxHeartbeats 4000000
namespace L2
open PySem PySem.Spec PyProof.Rows
inductive Shw (K : PySem.W.Frag) (H : Hp) : V → Str → Prop
  | non : Shw K H .non "None"
  | bl (b : Bool) : Shw K H (.bl b) (if b then "True" else "False")
  | int (i : Int) (h : i.natAbs.log2 < 1920) : Shw K H (.int i) (toString i)
  | str (x : Str) (h : (reprText x).length ≤ sizeLine) : Shw K H (.str x) (reprText x)
  | lst {a : Addr} (i : Int) (h : SqL K H a [.int i]) (hs : (PyData.list [.int i]).showable = true) (hz : (PyData.list [.int i]).shown.length ≤ sizeLine) : Shw K H (.ref a) (PyData.list [.int i]).shown
  | tup {a : Addr} (i : Int) (h : SqT K H a [.int i]) (hs : (PyData.tuple [.int i]).showable = true) (hz : (PyData.tuple [.int i]).shown.length ≤ sizeLine) : Shw K H (.ref a) (PyData.tuple [.int i]).shown
section
variable {X : Cx}
end
section
variable {X : Cx} {tg : Expr}
end
section
variable {X : Cx}
end
theorem IsRun.cut {H : Hp} {l D : Addr} {rs : List (Addr × Addr × Int × List Int)} {p : Addr × Addr × Int × List Int → Bool} (R : IsRun H l rs) (h : H D = some (.lst ((rs.filter p).map fun r => V.ref r.1))) : IsRun H D (rs.filter p) := ⟨h, fun r hr => R.row r (List.mem_filter.mp hr).1, fun r hr => R.num r (List.mem_filter.mp hr).1⟩
end L2
set_option Elab.async false
set_option linter.all false
set_option maxRecDepth 100000
set_option maxHeartbeats 4000000
namespace L2
open PySem PySem.Spec PyProof.Rows
abbrev Cel := Addr × Obj × V
def znb (p : Cel) : HO := .ext fun h => h.get? p.1 = some p.2.1
structure CellOk (p : Cel) : Prop where
  ex : ∃ u, p.2.1.data = .cell (some u) ∧ RelV p.2.2 u
structure FnV (P : Program) (w : World) (K : PySem.W.Frag) (mg : Str → Option Value) (base : Heap) (k : Nat) (H : Hp) (f : Addr) (sp : Sp) : Prop where
  obj : ∃ o fd, H f = some (.frz o (.own f)) ∧ o.data = .func fd
  run : ∀ (A : Around) (outer : List Env) (s : Shared) (H1 : Hp) (us : List Value) (vs : List V) (Q : VK), Room k A → Env0 P w K mg base A outer s H1 → Same H H1 → Vals vs us → sp vs H1 Q E0 →
    codeAny (model P w) A (.call (.ref f) ⟨us, []⟩) (fun r s' => ∃ u, r = .ok (.ret u) ∧ CE outer P w H1 s Q u s') s
section
variable {X : Cx} {k i : Nat} {x : Str} {p pos : Pos} {e : Expr} {es : List Expr} {t : TA}
end
structure LScope (scope : Scope) (x : Str) (N : List Str) : Prop where
  kind : scope.kind = .function
  nocell : ∀ y ∈ scope.names, y.2 ≠ .cell
  own : scope.names.lookup x = some .local
  head : N[0]? = some x
  apart : ∀ y, scope.names.lookup y = some .local → (y, NameKind.free) ∉ scope.names
structure CloV (H : Hp) (q : Str) (ar : Arguments) (body : Expr) (scope : Scope) (f : Addr) (cl : List (Str × Addr)) (N : List Str) (cs : List Cel) : Prop where
  ex : ∃ pm c ct oc us t o, H f = some (.frz o (.own f)) ∧ o.data = .func (PySem.W.kla_fn "<lambda>" q ar body scope cl pm (.ref c) ct) ∧ H c = some (.frz oc (.own c)) ∧ oc.data = .fields us ∧ us[1]? = some (.str q t)
  inj : ∀ y z c, cl.lookup y = some c → cl.lookup z = some c → y = z
  has : ∀ x, (x, NameKind.free) ∈ scope.names → ∃ c, cl.lookup x = some c
  cov : ∀ x c, cl.lookup x = some c → ∃ p, p ∈ cs ∧ p.1 = c
  len : N.length = cs.length + 1
  cap : ∀ (k : Nat) (p : Cel) (y : Str), N[k + 1]? = some y → cs[k]? = some p → cl.lookup y = some p.1 ∧ (y, NameKind.free) ∈ scope.names
  cel : ∀ p, p ∈ cs → H p.1 = some (znb p) ∧ CellOk p
  nd : (cs.map (·.1)).Nodup
end L2
set_option Elab.async false
set_option linter.all false
set_option maxRecDepth 100000
set_option maxHeartbeats 4000000
namespace L2
open PySem PySem.Spec PyProof.Rows PySem.W
end L2
set_option Elab.async false
set_option linter.all false
set_option maxRecDepth 100000
set_option maxHeartbeats 4000000
namespace PySem
open Sem (wp)
namespace F
end F
section
variable {prog : Program} {w : World} {K : Type} [DecidableEq K] {knd : KeyKind prog w K} {A : Around} {R : Result → Shared → Prop}
end
end PySem
namespace L2
open PySem PySem.Spec PyProof.Rows
theorem zdR {K : PySem.W.Frag} {a : Addr} {xs : List V} {js : List Nat} {tc : TT} {te : TE} {σ : St} {H1 : Hp} {Q : VK} (R : Nat → List V → Prop) (hl : SqL K H1 a xs)
    (ht : ∀ (i : Nat) x Hh (Q' : Bool → Hp → Prop), xs[i]? = some x → Same H1 Hh → (∀ Hh', Same Hh Hh' → Q' true Hh') → tc (some x :: caps σ js) Hh Q')
    (he : ∀ (i : Nat) x Hh (Q' : VK), xs[i]? = some x → Same H1 Hh → (∀ b t Hh', Same Hh Hh' → R i t → Hh' b = some (.tup t) → Q' (.ref b) Hh') → te (some x :: caps σ js) Hh Q')
    (hz : xs.length < sizeLine) (q : ∀ D H2 (bs : List (Addr × List V)), Same H1 H2 → H1 D = none → H2 D = some (.lst (bs.map fun b => V.ref b.1)) → bs.length = xs.length → (∀ (i : Nat) b, bs[i]? = some b → R i b.2) → (∀ b, b ∈ bs → H2 b.1 = some (.tup b.2)) → Q (.ref D) H2) :
    ze6 (Itl K a) js tc te σ H1 Q := by
  intro D H2 s2 hD h2
  refine ⟨fun i m acc H3 => m = xs.length - i ∧ i ≤ xs.length ∧ ∃ bs : List (Addr × List V), acc = (bs.map fun b => V.ref b.1) ∧ bs.length = i ∧ (∀ (j : Nat) b, bs[j]? = some b → R j b.2) ∧ (∀ b, b ∈ bs → H3 b.1 = some (.tup b.2)) ∧ Same H1 H3 ∧ H3 D = some (.lst acc), ⟨_, rfl, Nat.zero_le _, [], rfl, rfl, fun j b hb => by simp at hb, fun b hb => by simp at hb, s2, h2⟩, ?_⟩
  rintro i m acc H3 ⟨rfl, hi, bs, ea, eb, rb, hb, s3, h3⟩
  have hl3 : SqL K H3 a xs := s3.seq hl
  have hll : acc.length ≤ xs.length := by
    rw [ea, List.length_map]
    omega
  refine ⟨h3, by omega, ?_⟩
  by_cases hlt : i < xs.length
  · have hx : xs[i]? = some xs[i] := List.getElem?_eq_getElem hlt
    refine .inr ⟨⟨xs, _, hl3, hx⟩, fun y H4 z => ?_⟩
    obtain ⟨e, ey⟩ := z
    have ey2 := ey xs hl3
    subst e
    refine ht i y _ _ ey2 s3 fun H5 s5 => ?_
    have h5 := s5 _ _ h3
    have s35 := s3.trans s5
    refine iteT (he i y _ _ ey2 s35 fun b6 t6 H6 s6 r6 g6 => ⟨s6 _ _ h5, fun H7 k7 h7 => ⟨xs.length - (i + 1), by omega, rfl, hlt, bs ++ [(b6, t6)], ?_, by rw [List.length_append, eb]; rfl, fun j b hj => ?_, fun b hb' => ?_, fun b o e => ?_, h7⟩⟩)
    · rw [ea, List.map_append]
      rfl
    · by_cases z : j < bs.length
      · rw [List.getElem?_append_left z] at hj
        exact rb j b hj
      · rw [List.getElem?_append_right (by omega)] at hj
        cases y : j - bs.length with
        | zero =>
          rw [y] at hj
          cases hj
          rw [show j = i by omega]
          exact r6
        | succ n => rw [y] at hj; cases hj
    · have nD : ∀ c t, H6 c = some (.tup t) → c ≠ D := fun c t g z => by
        rw [z, s6 _ _ h5] at g
        cases g
      rcases List.mem_append.mp hb' with h | h
      · have g := s6 _ _ (s5 _ _ (hb b h))
        exact k7 _ _ (nD _ _ g) g
      · have : b = (b6, t6) := by simpa using h
        subst this
        exact k7 _ _ (nD _ _ g6) g6
    · by_cases hbD : b = D
      · subst hbD
        rw [hD] at e
        cases e
      · exact k7 b o hbD (s6 b o (s35 b o e))
  · have e : i = xs.length := by omega
    subst e
    refine .inl ⟨⟨xs, hl3, Nat.le_refl _⟩, ?_⟩
    rw [ea] at h3
    exact q D _ bs s3 hD h3 eb rb hb
theorem zfd {K : PySem.W.Frag} {a : Addr} {xs : List V} {nk : Nat} {g : TG} {js : List Nat} {tc : TT} {te : TE} {σ : St} {H1 : Hp} {Q : VK} (o : Nat → St) (f : Nat → V) (w : Nat → List V) (hl : SqL K H1 a xs) (ho : ∀ i, (o i).length = nk)
    (hg : ∀ (i : Nat) x Hh os (R : St → Hp → Prop), xs[i]? = some x → Same H1 Hh → os.length = nk → R (o i ++ caps σ js) Hh → g x (os ++ caps σ js) Hh R)
    (ht : ∀ (i : Nat) x Hh (Q' : Bool → Hp → Prop), xs[i]? = some x → Same H1 Hh → (∀ Hh', Same Hh Hh' → Q' true Hh') → tc (o i ++ caps σ js) Hh Q')
    (he : ∀ (i : Nat) x Hh (Q' : VK), xs[i]? = some x → Same H1 Hh → (∀ b m Hh', Same Hh Hh' → Hh m = none → Hh' b = some (.tup [f i, .ref m]) → Hh' m = some (.lst (w i)) → Q' (.ref b) Hh') → te (o i ++ caps σ js) Hh Q')
    (hz : xs.length < sizeLine) (q : ∀ D H2 (bs : List (Addr × Addr)), Same H1 H2 → H1 D = none → H2 D = some (.lst (bs.map fun b => V.ref b.1)) → bs.length = xs.length → (∀ (i : Nat) b, bs[i]? = some b → H2 b.1 = some (.tup [f i, .ref b.2]) ∧ H2 b.2 = some (.lst (w i))) → Q (.ref D) H2) :
    zeD (Itl K a) nk g js tc te σ H1 Q := by
  intro D H2 s2 hD h2
  refine ⟨fun i m acc H3 => m = xs.length - i ∧ i ≤ xs.length ∧ ∃ bs : List (Addr × Addr), acc = (bs.map fun b => V.ref b.1) ∧ bs.length = i ∧ (∀ (j : Nat) b, bs[j]? = some b → H3 b.1 = some (.tup [f j, .ref b.2]) ∧ H3 b.2 = some (.lst (w j)) ∧ b.2 ≠ D) ∧ Same H1 H3 ∧ H3 D = some (.lst acc), ⟨_, rfl, Nat.zero_le _, [], rfl, rfl, fun j b hb => by simp at hb, s2, h2⟩, ?_⟩
  rintro i m acc H3 ⟨rfl, hi, bs, ea, eb, rb, s3, h3⟩
  have hl3 : SqL K H3 a xs := s3.seq hl
  have hll : acc.length ≤ xs.length := by
    rw [ea, List.length_map]
    omega
  refine ⟨h3, by omega, ?_⟩
  by_cases hlt : i < xs.length
  · have hx : xs[i]? = some xs[i] := List.getElem?_eq_getElem hlt
    refine .inr ⟨⟨xs, _, hl3, hx⟩, fun os ol y H4 z => ?_⟩
    obtain ⟨e, ey⟩ := z
    have ey2 := ey xs hl3
    subst e
    refine hg i y _ os _ ey2 s3 ol ⟨o i, ho i, rfl, ?_⟩
    refine ht i y _ _ ey2 s3 fun H5 s5 => ?_
    have h5 := s5 _ _ h3
    have s35 := s3.trans s5
    refine iteT (he i y _ _ ey2 s35 fun b6 m6 H6 s6 n6 g6 w6 => ⟨s6 _ _ h5, fun H7 k7 h7 => ⟨xs.length - (i + 1), by omega, rfl, hlt, bs ++ [(b6, m6)], ?_, by rw [List.length_append, eb]; rfl, fun j b hj => ?_, fun b o e => ?_, h7⟩⟩)
    · rw [ea, List.map_append]
      rfl
    · have nD : ∀ c t, H6 c = some (.tup t) → c ≠ D := fun c t g z => by
        rw [z, s6 _ _ h5] at g
        cases g
      have mD : m6 ≠ D := fun z => by rw [z, h5] at n6; cases n6
      by_cases z : j < bs.length
      · rw [List.getElem?_append_left z] at hj
        obtain ⟨r1, r2, r3⟩ := rb j b hj
        have g1 := s6 _ _ (s5 _ _ r1)
        exact ⟨k7 _ _ (nD _ _ g1) g1, k7 _ _ r3 (s6 _ _ (s5 _ _ r2)), r3⟩
      · rw [List.getElem?_append_right (by omega)] at hj
        cases y : j - bs.length with
        | zero =>
          rw [y] at hj
          cases hj
          rw [show j = i by omega]
          exact ⟨k7 _ _ (nD _ _ g6) g6, k7 _ _ mD w6, mD⟩
        | succ n => rw [y] at hj; cases hj
    · by_cases hbD : b = D
      · subst hbD
        rw [hD] at e
        cases e
      · exact k7 b o hbD (s6 b o (s35 b o e))
  · have e : i = xs.length := by omega
    subst e
    refine .inl ⟨⟨xs, hl3, Nat.le_refl _⟩, ?_⟩
    rw [ea] at h3
    exact q D _ bs s3 hD h3 eb fun j b hj => ⟨(rb j b hj).1, (rb j b hj).2.1⟩
def zms (K : PySem.W.Frag) : List V → Hp → VK → Prop := fun xs H Q => ∃ p ys, xs = [.ref p] ∧ (SqL K H p ys ∨ SqT K H p ys) ∧ ∀ l H2, Same H H2 → H l = none → H2 l = some (.lst ys) → Q (.ref l) H2
theorem zdm {X : Cx} {K : PySem.W.Frag} (hK : X.K = K) : zdp X (.type "list") (zms K) := hK ▸ zfX
end L2
set_option Elab.async false
set_option linter.all false
set_option maxRecDepth 100000
set_option maxHeartbeats 4000000
namespace PySem
open Sem (wp)
section
variable {prog : Program} {w : World} {A : Around} {E : Value → Shared → Prop} {s : Shared}
theorem zhZ {e it l : Addr} {j : Nat} {c : Int} {items : Array Value} {x old : Value} {Q : Value → Shared → Prop}
    (en : IsEnum s.heap e it c old) (li : s.heap.IsListIter it l j) (ls : s.heap.IsList l items) (hx : items[j]? = some x) (ei : e ≠ it)
    (fin : ∀ h', IsEnumOut h' e it (c + 1) x s.heap.objs.size → h'.IsListIter it l (j + 1) →
      h'.get? s.heap.objs.size = some { cls := .type "tuple", data := .seq #[.int c s.toks, x] } → h'.objs.size = s.heap.objs.size + 1 →
      (∀ b o, b ≠ e → b ≠ it → s.heap.get? b = some o → h'.get? b = some o) → Q (.ref s.heap.objs.size) { s with heap := h', toks := s.toks + 1 }) :
    wpAny (model prog w) A (Builtin.«enumerate.__next__» ⟨[.ref e], []⟩) (fun f s' => ∃ v, f = .done (.ret v) ∧ Q v s') E s := by
  rcases s with ⟨h0, gs, dr, n0, oz⟩
  show wpAny _ _ (field (.ref e) 2 >>= _) _ _ _
  refine wpAny_bind (wpAny_field en rfl (x := .ref it) rfl (wpAny_bind (wpAny_nextOf_list_item li ls hx fun h1 li1 sb1 => ?_)))
  have sb1 : Heap.SameBut it h0 h1 := sb1
  have en1 : IsEnum h1 e it c old := (sb1.2 e ei).trans en
  show wpAny _ _ (field (.ref e) 3 >>= _) _ _ ⟨h1, gs, dr, n0, oz⟩
  refine wpAny_bind (wpAny_field en1 rfl (x := rawInt c) rfl ?_)
  show wpAny _ _ (field (.ref e) 4 >>= _) _ _ ⟨h1, gs, dr, n0, oz⟩
  refine wpAny_bind (wpAny_field en1 rfl (x := .none) rfl ?_)
  show wpAny _ _ (mkInt c >>= _) _ _ ⟨h1, gs, dr, n0, oz⟩
  refine wpAny_bind (wpAny_mkInt ?_)
  show wpAny _ _ (setField (.ref e) 3 (rawInt (c + 1)) >>= _) _ _ ⟨h1, gs, dr, n0 + 1, oz⟩
  refine wpAny_bind (wpAny_setField_rec en1 (by simp) fun h2 en2 sb2 => ?_)
  have sb2 : Heap.SameBut e h1 h2 := sb2
  have en2 : IsEnum h2 e it (c + 1) old := en2
  show wpAny _ _ (setField (.ref e) 4 .none >>= _) _ _ ⟨h2, gs, dr, n0 + 1, oz⟩
  refine wpAny_bind (wpAny_setField_rec en2 (by simp) fun h3 en3 sb3 => ?_)
  have sb3 : Heap.SameBut e h2 h3 := sb3
  have en3 : IsEnum h3 e it (c + 1) old := en3
  show wpAny _ _ (newTuple [.int c n0, x] >>= _) _ _ ⟨h3, gs, dr, n0 + 1, oz⟩
  refine wpAny_bind (wpAny_newTuple ?_)
  have z3 : h3.objs.size = h0.objs.size := sb3.1.trans (sb2.1.trans sb1.1)
  have k3 : ∀ b o, b ≠ e → b ≠ it → h0.get? b = some o → h3.get? b = some o := fun b o n1 n2 q => sb3.extBut b o n1 (sb2.extBut b o n1 (sb1.extBut b o n2 q))
  have li3 : h3.IsListIter it l (j + 1) := (li1.extBut sb2.extBut ei.symm).extBut sb3.extBut ei.symm
  have le : e < h0.objs.size := Heap.lt_size en
  generalize e4 : h3.push { cls := .type "tuple", data := .seq #[.int c n0, x] } = h4
  have en4 : IsEnum h4 e it (c + 1) old := by rw [← e4]; exact Heap.get?_push_of_some _ en3
  have tp4 : h4.get? h0.objs.size = some { cls := .type "tuple", data := .seq #[.int c n0, x] } := by rw [← e4, ← z3]; exact Heap.get?_push_size _ rfl
  have z4 : h4.objs.size = h0.objs.size + 1 := by rw [← e4, Heap.size_push, z3]
  have k4 : ∀ b o, b ≠ e → b ≠ it → h0.get? b = some o → h4.get? b = some o := fun b o n1 n2 q => by rw [← e4]; exact Heap.get?_push_of_some _ (k3 b o n1 n2 q)
  have li4 : h4.IsListIter it l (j + 1) := by rw [← e4]; obtain ⟨o, q, r⟩ := li3; exact ⟨o, Heap.get?_push_of_some _ q, r⟩
  show wpAny _ _ (Builtin.SmallTypes.ownedTupleIsFree (.ref e) >>= _) _ _ ⟨h4, gs, dr, n0 + 1, oz⟩
  rw [z3]
  refine wpAny_bind ?_
  unfold Builtin.SmallTypes.ownedTupleIsFree
  refine wpAny_bind (wpAny_field en4 rfl (x := .none) rfl (wpAny_pure ?_))
  simp only [if_true]
  refine wpAny_bind (wpAny_rule (wpAny_bind (wpAny_field en4 rfl (x := old) rfl (wpAny_bind (wpAny_setField_rec en4 (by simp) fun h5 en5 sb5 => ?_)))))
  have sb5 : Heap.SameBut e h4 h5 := sb5
  have en5 : IsEnum h5 e it (c + 1) x := en5
  show wpAny _ _ (Builtin.SmallTypes.ownedTupleHandOut (.ref e) (.ref h0.objs.size) >>= _) _ _ ⟨h5, gs, dr, n0 + 1, oz⟩
  refine wpAny_bind ?_
  unfold Builtin.SmallTypes.ownedTupleHandOut
  refine wpAny_bind (wpAny_setField_rec en5 (by simp) fun h6 en6 sb6 => ?_)
  have sb6 : Heap.SameBut e h5 h6 := sb6
  have en6 : IsEnumOut h6 e it (c + 1) x h0.objs.size := en6
  refine wpAny_setField_rec en6 (by simp) fun h7 en7 sb7 => ?_
  have sb7 : Heap.SameBut e h6 h7 := sb7
  have en7 : IsEnumOut h7 e it (c + 1) x h0.objs.size := en7
  have k7 : ∀ b o, b ≠ e → h4.get? b = some o → h7.get? b = some o := fun b o n1 q => sb7.extBut b o n1 (sb6.extBut b o n1 (sb5.extBut b o n1 q))
  refine wpAny_bind (wpAny_letGo (wpAny_pure ⟨_, rfl, fin h7 en7 ?_ (k7 _ _ (Nat.ne_of_gt le) tp4) (by rw [sb7.1, sb6.1, sb5.1, z4]) fun b o n1 n2 q => k7 b o n1 (k4 b o n1 n2 q)⟩))
  obtain ⟨o, q, r⟩ := li4
  exact ⟨o, k7 it o ei.symm q, r⟩
theorem zh0 {e it l : Addr} {j : Nat} {c : Int} {items : Array Value} {x old : Value} {Q : Option Value → Shared → Prop}
    (en : IsEnum s.heap e it c old) (li : s.heap.IsListIter it l j) (ls : s.heap.IsList l items) (hx : items[j]? = some x) (ei : e ≠ it)
    (fin : ∀ h', IsEnumOut h' e it (c + 1) x s.heap.objs.size → h'.IsListIter it l (j + 1) →
      h'.get? s.heap.objs.size = some { cls := .type "tuple", data := .seq #[.int c s.toks, x] } → h'.objs.size = s.heap.objs.size + 1 →
      (∀ b o, b ≠ e → b ≠ it → s.heap.get? b = some o → h'.get? b = some o) → Q (some (.ref s.heap.objs.size)) { s with heap := h', toks := s.toks + 1 }) :
    wpAny (model prog w) A (pyNext (.ref e)) Q E s := by
  have ty : s.TypeIs (.ref e) "enumerate" := ⟨_, en, rfl⟩
  unfold pyNext
  exact wpAny_bind (wpAny_attempt (wpAny_callSpecial?_slot (name := Str.ofString "__next__") ty F.slot_enumerate_next (wpAny_call_entry F.slot_enumerate_next ty F.entry_enumerate_next (zhZ en li ls hx ei fun h' a1 a2 a3 a4 a5 => wpAny_pure (fin h' a1 a2 a3 a4 a5)) (F.args_enumerate_next_1 _))))
theorem zji {e it l : Addr} {j : Nat} {c : Int} {items : Array Value} {old : Value} {Q : Option Value → Shared → Prop} (hh : A.handled = none)
    (en : IsEnum s.heap e it c old) (li : s.heap.IsListIter it l j) (ls : s.heap.IsList l items) (hx : items[j]? = none)
    (fin : ∀ h', Heap.ExtBut it s.heap h' → Q none { s with heap := h' }) : wpAny (model prog w) A (pyNext (.ref e)) Q E s := by
  have ty : s.TypeIs (.ref e) "enumerate" := ⟨_, en, rfl⟩
  unfold pyNext
  refine wpAny_bind (wpAny_attempt (wpAny_callSpecial?_slot (name := Str.ofString "__next__") ty F.slot_enumerate_next (wpAny_call_entry F.slot_enumerate_next ty F.entry_enumerate_next ?_ (F.args_enumerate_next_1 _))))
  show wpAny _ _ (field (.ref e) 2 >>= _) _ _ _
  refine wpAny_bind (wpAny_field en rfl (x := .ref it) rfl (wpAny_bind (wpAny_nextOf_list_end hh li ls hx fun h' y kp hy => ?_)))
  obtain ⟨o, q1, q2⟩ := hy
  exact wpAny_bind (wpAny_isInstance (T := "StopIteration") (b := true) ⟨o, q1, q2⟩ isSubtype_stop (wpAny_pure (fin _ kp)))
end
end PySem
set_option Elab.async false
set_option linter.all false
set_option maxRecDepth 100000
set_option maxHeartbeats 4000000
namespace PySem
open Sem (wp)
open AutoSeq1 (wpAny_loadPart')
theorem zkc (a b : Value) : checkTypeCall "enumerate" ⟨[a], [("start", b)]⟩ = pure () := by kernel_rfl
theorem zkd (a b : Value) : checkBuiltinCall "enumerate.__new__" ⟨[.type "enumerate", a], [("start", b)]⟩ = pure () := by kernel_rfl
theorem zke (a b c : Value) : argsOk "object.__init__" ⟨[a, b], [("start", c)]⟩ := by
  unfold argsOk
  rw [signature?_of (id := "object.__init__") (n := "__tini__".toList) (o := "tcejbo".toList) (by kernel_rfl) F.owner_object]
  kernel_rfl
theorem zlB {c : Int} (h : 0 ≤ c) (h' : c < 2 ^ 63) : Builtin.SmallTypes.fitsIndex c = true := by
  unfold Builtin.SmallTypes.fitsIndex
  simp only [Bool.and_eq_true, decide_eq_true_eq]
  omega
theorem zkf {T nid : String} {self : Value} {rest : List Value} {kw : List (Str × Value)} (hl : typeLookup (.type T) "__init__" = pure (some (.builtin "object.__init__")))
    (hm : Bind.madeBy (.type T) = pure (some nid)) (ne : (some nid != some "object.__new__") = true) (hr : rest ≠ []) :
    Meets (Builtin.«object.__init__» ⟨self :: rest, kw⟩) (fun _ R s => s.TypeIs self T ∧ R (.ok (.ret .none)) s) := by
  refine Meets.of_wp fun prog w A R s hs => ?_
  obtain ⟨ty, q⟩ := hs
  cases rest with
  | nil => exact absurd rfl hr
  | cons y ys =>
    repeat (any_goals (first | assumption | wp_step))
    exact ⟨_, rfl, q⟩
set_option maxHeartbeats 8000000 in
theorem zgG (l : Addr) (its : Array Value) (n : Nat) (dct : Option Addr) (sl : Array (Option Value)) (c : Int) (t : Tok) (hc : Builtin.SmallTypes.fitsIndex c = true) :
    Meets (Builtin.«enumerate.__new__» ⟨[.type "enumerate", .ref l], [("start", .int c t)]⟩) (fun _ R s => s.heap.get? l = some { cls := .type "list", dict := dct, data := .seq its n, slots := sl } ∧
      R (.ok (.ret (.ref (s.heap.push { cls := .type "list_iterator", data := .fields #[.ref l, .int 0 0] }).objs.size)))
        { s with heap := (s.heap.push { cls := .type "list_iterator", data := .fields #[.ref l, .int 0 0] }).push { cls := .type "enumerate", data := .fields #[.none, .bool false, .ref s.heap.objs.size, rawInt c, .none, .none] } }) :=
  .of_wp fun prog w A R s h => by
    obtain ⟨hp, g, d, tk, os⟩ := s; obtain ⟨gl, h⟩ := h
    have sb := sub_enumerate
    have L : Heap.IsList (Shared.heap ⟨hp, g, d, tk, os⟩) l its := ⟨_, gl, rfl, n, rfl⟩
    wp_walk using wpAny_loadPart' gl
    refine wpAny_stack_any fun st => wpAny_pure ?_
    split
    · rename_i cc _ _ _ _ _
      cases (cc == Value.type "enumerate")
      · wp_walk using wpAny_loadPart' gl, wpAny_pyIter_list L; exact ⟨_, rfl, h⟩
      · wp_walk using wpAny_loadPart' gl, wpAny_pyIter_list L; exact ⟨_, rfl, h⟩
    · wp_walk using wpAny_loadPart' gl, wpAny_pyIter_list L; exact ⟨_, rfl, h⟩
section
variable {prog : Program} {w : World} {A : Around} {E : Value → Shared → Prop} {s : Shared}
theorem zkg {T nid iid : String} {Bn Bi : Builtin} {args : List Value} {kw : List (Str × Value)} {S : Spec} {Q Q₁ : Value → Shared → Prop} (ft : TypeCalled T nid iid)
    (ct : checkTypeCall T ⟨args, kw⟩ = pure ()) (cn : checkBuiltinCall nid ⟨.type T :: args, kw⟩ = pure ())
    (eN : entryFor table nid = some Bn) (eI : entryFor table iid = some Bi) (m : Meets (Bn ⟨.type T :: args, kw⟩) S) (h : S A.in1 (wants Q₁ E) s)
    (nx : ∀ y s₁, Q₁ y s₁ → s₁.TypeIs y T ∧ argsOk iid ⟨y :: args, kw⟩ ∧ ∃ Si, Meets (Bi ⟨y :: args, kw⟩) Si ∧ Si A.in1 (wants (fun r s₂ => r = .none ∧ Q y s₂) E) s₁) :
    wpAny (model prog w) A (call (.type T) args kw) Q E s := by
  obtain ⟨c0, tl0, mro0⟩ := ft.mro
  have made0 := ft.made
  have sub0 := ft.sub
  refine wpAny_call (codeAny_of_tree ?_)
  show wpAny _ _ (callAny (.type T) _) _ _ _
  refine wpAny_pure ⟨Code.quiet_builtin _ (by decide +kernel), codeAny_builtin F.entry_type_call ?_⟩
  rw [Around.under_plain (weight_type_call_type T args kw) (units_type_call_type T args kw)]
  have nt0 := ft.notType
  have cc0 := ft.canCreate
  repeat (any_goals (first | assumption | wp_step))
  refine codeAny_mono (codeAny_call_builtin ft.plain eN (wpAny_of_eq cn (m prog w A.in1 _ s h))) fun r s₁ hr => ?_
  cases r with
  | error e => exact hr
  | ok fl =>
    cases fl with
    | ret y =>
      obtain ⟨ty, ok, Si, mi, hi⟩ := nx _ _ hr
      have li0 := ft.init.lookup
      have bi0 := ft.init.bind y
      repeat (any_goals (first | assumption | wp_step))
      refine codeAny_mono (codeAny_call_builtin ft.init.plain eI (ft.init.check _ _ _ _ _ _ _ _ ty ok (mi prog w A.in1 _ s₁ hi))) fun r2 s2 h2 => ?_
      cases r2 with
      | error e => exact h2
      | ok f2 =>
        cases f2 with
        | ret r =>
          obtain ⟨rfl, q⟩ := h2
          repeat (any_goals (first | assumption | wp_step))
        | _ => exact h2.elim
    | _ => exact hr.elim
theorem zh1 {l : Addr} {its : Array Value} {c : Int} {t : Tok} {Q : Value → Shared → Prop} (h0 : 0 ≤ c) (h63 : c < 2 ^ 63) (L : s.heap.IsList l its)
    (h : ∀ h', IsEnum h' (s.heap.objs.size + 1) s.heap.objs.size c .none → h'.IsListIter s.heap.objs.size l 0 → h'.objs.size = s.heap.objs.size + 2 →
      (∀ b o, s.heap.get? b = some o → h'.get? b = some o) → Q (.ref (s.heap.objs.size + 1)) { s with heap := h' }) :
    wpAny (model prog w) A (call (.type "enumerate") [.ref l] [("start", .int c t)]) Q E s := by
  obtain ⟨⟨cl, dct, dt, sl⟩, gl, hc, n, hd⟩ := L
  replace hc : cl = .type "list" := hc
  replace hd : dt = .seq its n := hd
  subst hc hd
  refine zkg (Q₁ := fun y s₁ => s₁.TypeIs y "enumerate" ∧ Q y s₁) F.called_enumerate (zkc _ _) (zkd _ _) F.entry_enumerate_new F.entry_object_init (zgG l its n dct sl c t (zlB h0 h63)) ⟨gl, ?_⟩
    fun y _ q => ⟨q.1, zke y _ _, _, zkf F.called_enumerate.init.lookup F.called_enumerate.made (by decide) (by simp), q.1, rfl, q.2⟩
  generalize e1 : s.heap.push { cls := .type "list_iterator", data := .fields #[.ref l, .int 0 0] } = k1
  have z1 : k1.objs.size = s.heap.objs.size + 1 := by rw [← e1]; exact Heap.size_push ..
  have g1 : k1.get? s.heap.objs.size = some { cls := .type "list_iterator", data := .fields #[.ref l, .int 0 0] } := by rw [← e1]; exact Heap.get?_push_size _ rfl
  have o1 : ∀ b o, s.heap.get? b = some o → k1.get? b = some o := fun b o x => by rw [← e1]; exact Heap.get?_push_of_some _ x
  show _ ∧ _
  rw [z1]
  have he : IsEnum (k1.push { cls := .type "enumerate", data := .fields #[.none, .bool false, .ref s.heap.objs.size, rawInt c, .none, .none] }) (s.heap.objs.size + 1) s.heap.objs.size c .none := by
    have y := Heap.get?_push_size k1 (o := { cls := .type "enumerate", data := .fields #[.none, .bool false, .ref s.heap.objs.size, rawInt c, .none, .none] }) rfl
    rw [z1] at y
    exact y
  exact ⟨⟨_, he, rfl⟩, h _ he ⟨_, Heap.get?_push_of_some _ g1, rfl, rfl⟩ (by rw [Heap.size_push, z1]) fun b o x => Heap.get?_push_of_some _ (o1 b o x)⟩
end
end PySem
set_option Elab.async false
set_option linter.all false
set_option maxRecDepth 100000
set_option maxHeartbeats 4000000
namespace L2
open PySem PySem.Spec PyProof.Rows
def IteS (K : PySem.W.Frag) (a : Addr) (c : Int) : It :=
  ⟨fun i H => ∃ xs x, SqL K H a xs ∧ xs[i]? = some x, fun i H x H' => ∃ p y, x = .ref p ∧ Same H H' ∧ H p = none ∧ H' p = some (.tup [.int (c + i), y]) ∧ ∀ xs, SqL K H a xs → xs[i]? = some y, fun i H => ∃ xs, SqL K H a xs ∧ xs.length ≤ i⟩
theorem zh2 {P : Program} {w : World} {K : PySem.W.Frag} {elts : List Expr} {x1} {pos : Pos} (c : Int) (a e it : Addr) (hne : e ≠ it) :
    Turn P w K (.Tuple elts x1 pos) (IteS K a c) [e, it] e (fun i h => (∃ old, IsEnum h e it (c + i) old) ∧ h.IsListIter it a i) where
  mem := by simp
  obj := fun i h st b hb => by
    obtain ⟨⟨old, he⟩, o, ho, c, d⟩ := st
    rcases List.mem_cons.mp hb with rfl | hb
    · exact ⟨_, he, fun v z => by
        have z' : Data.fields _ = Data.cell v := z
        cases z'⟩
    · have e : b = it := by simpa using hb
      subst e
      exact ⟨o, ho, fun v z => by rw [d] at z; cases z⟩
  keep := fun i h h' st k => ⟨let ⟨old, he⟩ := st.1; ⟨old, k e (by simp) _ he⟩, st.2.at fun o q => k it (by simp) o q⟩
  item := by
    intro X hP hw hK hc i pins s σ H E I hf st hg
    subst hP hw hK
    obtain ⟨xs, x, hq, hx⟩ := hg
    obtain ⟨its, rv, p, hz⟩ := I.list hq
    obtain ⟨u, hu, ru⟩ := rv.get hx
    obtain ⟨⟨old, he⟩, hit⟩ := st
    have el : e < s.heap.objs.size := Heap.lt_size he
    have il : it < s.heap.objs.size := by obtain ⟨o, y, _⟩ := id hit; exact Heap.lt_size y
    refine zh0 he hit p.isList (x := u) (by simpa using hu) hne fun h' ho hit' hT hsz hk => ?_
    refine ⟨_, rfl, wpAny_letOwnedTupleGo_enum ho fun h'' he'' hs'' => ?_⟩
    have fr : H s.heap.objs.size = none := I.hok.fresh (Nat.le_refl _)
    have I1 : Inv X pins σ (upd H s.heap.objs.size (.tup [.int (c + i), x])) { s with heap := s.heap.push { cls := .type "tuple", data := .seq #[.int (c + i) s.toks, u] }, toks := s.toks } :=
      I.laid (fun b o q => Heap.get?_push_of_some _ q) (Nat.le_refl _) ⟨by show 2 ≤ sizeLine; decide, [.int (c + i) s.toks, u], .cons ⟨_, rfl⟩ (.cons ru .nil), _, Heap.get?_push_size _ rfl, rfl, _, rfl⟩
    have hf1 : ∀ b ∈ [e, it], FpOk X pins (upd H s.heap.objs.size (.tup [.int (c + i), x])) b := fun b hb => by
      have nb : b ≠ s.heap.objs.size := by
        simp only [List.mem_cons, List.not_mem_nil, or_false] at hb
        rcases hb with rfl | rfl
        · exact Nat.ne_of_lt el
        · exact Nat.ne_of_lt il
      exact ⟨by rw [zah nb]; exact (hf b hb).1, (hf b hb).2⟩
    have I2 : Inv X pins σ (upd H s.heap.objs.size (.tup [.int (c + i), x])) { s with heap := h'', toks := s.toks + 1 } := by
      refine Inv.turnedL (s := { s with heap := s.heap.push { cls := .type "tuple", data := .seq #[.int (c + i) s.toks, u] }, toks := s.toks }) (fp := [e, it]) I1 (fun b o hb q => ?_) hf1
      have q : (s.heap.push { cls := .type "tuple", data := .seq #[.int (c + i) s.toks, u] }).get? b = some o := q
      simp only [List.mem_cons, List.not_mem_nil, or_false, not_or] at hb
      refine hs''.extBut b o hb.1 ?_
      rcases Heap.get?_push_cases q with ⟨e1, e2⟩ | q'
      · subst e1 e2
        exact hT
      · exact hk b o hb.1 hb.2 q'
    have en : c + (i : Int) + 1 = c + ((i + 1 : Nat) : Int) := by omega
    refine ⟨.ref s.heap.objs.size, _, I2, rfl, ⟨_, x, rfl, zaU fr _, fr, zai, fun ys hy => by rw [I.list_inj hy hq]; exact hx⟩, ⟨⟨_, by rw [← en]; exact he''⟩, hit'.extBut hs''.extBut (Ne.symm hne)⟩, fun b hb => (hf1 b hb).1⟩
  done := by
    intro X hP hw hK hc i pins s σ H E I hf st hg
    subst hP hw hK
    obtain ⟨xs, hq, hx⟩ := hg
    obtain ⟨its, rv, p, hz⟩ := I.list hq
    obtain ⟨f0, f1, f2, f3, f4, f5⟩ := hf it (by simp)
    obtain ⟨⟨old, he⟩, hit⟩ := st
    have hl := rv.length
    exact zji (I.ok.hd hc) he hit p.isList (by simp; omega) fun h' eb => ⟨rfl, I.turned (t' := s.toks) (fun b o hb e => eb b o hb e) f0 f1 f3 f4 f5⟩
  self := fun _ _ _ _ _ st h => let ⟨_, he⟩ := st.1; wpAny_pyIter_enum he h
section
variable {M : Model} {A : Around} {E : Value → Shared → Prop} {s : Shared} {env : Env}
theorem zf8 {pos : Pos} {T : String} {e : Expr} {rest : List Expr} {ks : List Keyword} {Q : Value → Shared → Prop}
    (h : wpAny M A (spliced (backTo pos (starEach (e :: rest) env))) (fun us s₁ => wpAny M A (evalAll ((backToKw pos (keywordEach ks env)).map (·.2)))
      (fun ws s₂ => wpAny M A (call (.type T) us (((backToKw pos (keywordEach ks env)).filterMap (·.1)).zip ws)) Q E s₂) E s₁) E s)
    (he : backTo pos (starEach (e :: rest) env) = (false, eval e env) :: backTo pos (starEach rest env))
    (pl : (backTo pos (starEach (e :: rest) env)).any (·.1) = false)
    (al : (backToKw pos (keywordEach ks env)).all (·.1.isSome) = true)
    (nn : (backToKw pos (keywordEach ks env)).any (·.1.isNone) = false) :
    wpAny M A (callWith pos (.type T) [] (backTo pos (starEach (e :: rest) env)) (backToKw pos (keywordEach ks env))) Q E s := by
  unfold callWith
  have k : wpAny M A (evalArgs (.type T) true (backTo pos (starEach (e :: rest) env)) (backToKw pos (keywordEach ks env))) (fun a s₁ => wpAny M A (call (.type T) ([] ++ a.pos) a.kw) Q E s₁) E s := by
    rw [he] at h ⊢
    exact evalArgs_kwB al h
  refine wpAny_bind (wpAny_holding (wpAny_mono k (fun a s1 h1 => wpAny_bind (wpAny_standAt ?_)) fun _ _ x => x))
  simp only [pl, nn, Bool.or_false]
  refine wpAny_bind (wpAny_pure ?_)
  exact wpAny_bind (wpAny_mono h1 (fun r s2 hr => wpAny_bind (wpAny_holding (wpAny_point (wpAny_pure hr)))) fun _ _ x => x)
end
def zmt (K : PySem.W.Frag) (ta : TA) (te : TE) : TI := fun σ H R => ta σ H fun vs H1 => te σ H1 fun v H2 => ∃ a c, vs = [.ref a] ∧ v = .int c ∧ 0 ≤ c ∧ c < 2 ^ 63 ∧ (∃ xs, SqL K H2 a xs) ∧ R (IteS K a c) H2
theorem zkh {X : Cx} {elts : List Expr} {x1} {pos' : Pos} {a b : Expr} {ta : TA} {te : TE} {p kp pos : Pos} (hg : Gl X "enumerate") (hm : X.mg "enumerate" = none) (ha : PA X [a] ta) (hb : PE X b te)
    (hst : backTo pos (starEach [a] X.env) = (false, eval a X.env) :: backTo pos (starEach [] X.env) := by rfl) :
    PI X (.Tuple elts x1 pos') (.Call (.Name "enumerate" p) [a] [⟨some "start", b, kp⟩] pos) (zmt X.K ta te) := by
  with_unfolding_all
    intro pins s σ H R I h
    refine wpAny_Call_Name_kw (zd2 I hg hm zd7 ?_)
    refine zf8 (thn (ha pos pins s σ H _ I h) fun us s1 ⟨vs, H1, I1, r1, q1⟩ => ?_) hst (by rw [hst]; rfl) rfl rfl
    refine kws_cons (thn (hb pins s1 σ H1 _ I1 q1) fun u s2 ⟨v, H2, I2, rv, q2⟩ => kws_nil ?_)
    obtain ⟨l, c, e, e', h0, h1, ⟨xs, hq⟩, q⟩ := q2
    subst e e'
    obtain ⟨t, rfl⟩ := rv
    cases r1 with
    | cons r rr =>
      cases rr
      cases r
      obtain ⟨its, rv, pl, hz⟩ := I2.list hq
      refine zh1 h0 h1 pl.isList fun h' he hit hsz hk => ?_
      refine wpAny_pyIter_enum he ?_
      have I3 : Inv X pins σ H2 { s2 with heap := h', toks := s2.toks } := I2.kept hk
      refine ⟨s2.heap.objs.size + 1, [s2.heap.objs.size + 1, s2.heap.objs.size], _, _, H2, rfl, I3, zh2 c l _ _ (Nat.succ_ne_self _), ⟨⟨_, by simpa using he⟩, hit⟩, fun b hb => ?_, q⟩
      simp only [List.mem_cons, List.not_mem_nil, or_false] at hb
      rcases hb with rfl | rfl
      · exact I2.fpOk (Nat.le_succ _) (I2.hok.fresh (Nat.le_succ _))
      · exact I2.fpOk (Nat.le_refl _) (I2.hok.fresh (Nat.le_refl _))
theorem zjj {K : PySem.W.Frag} {a : Addr} {c : Int} {xs : List V} {g : TG} {tb : TS} {D : Ends} {σ : St} {H : Hp} (Pv : Nat → St → Hp → Prop) (h0 : Pv 0 σ H) (hl : ∀ i σ H, i ≤ xs.length → Pv i σ H → SqL K H a xs)
    (hs : ∀ i x σ H p H1, xs[i]? = some x → Pv i σ H → Same H H1 → H p = none → H1 p = some (.tup [.int (c + i), x]) → g (.ref p) σ H1 fun σ2 H2 => tb { D with nx := Pv (i + 1), ct := Pv (i + 1), bk := D.nx } σ2 H2) (hd : ∀ σ H, Pv xs.length σ H → D.nx σ H) :
    ∃ W : Nat → Nat → St → Hp → Prop, (∃ m, W 0 m σ H) ∧ ∀ i m σ H, W i m σ H →
      ((IteS K a c).stop i H ∧ D.nx σ H) ∨ ((IteS K a c).go i H ∧ ∃ N : St → Hp → Prop, (∀ σ' H', N σ' H' → ∃ m', m' < m ∧ W (i + 1) m' σ' H') ∧ ∀ x H', (IteS K a c).yld i H x H' → g x σ H' fun σ2 H2 => tb { D with nx := N, ct := N, bk := D.nx } σ2 H2) := by
  refine ⟨fun i m σ H => m = xs.length - i ∧ i ≤ xs.length ∧ Pv i σ H, ⟨xs.length, by simp, Nat.zero_le _, h0⟩, ?_⟩
  rintro i m σ H ⟨rfl, hi, p⟩
  have q := hl i σ H hi p
  by_cases hlt : i < xs.length
  · refine .inr ⟨⟨xs, xs[i], q, by simp [hlt]⟩, Pv (i + 1), fun σ' H' p' => ⟨xs.length - (i + 1), by omega, rfl, hlt, p'⟩, fun x H' y => ?_⟩
    obtain ⟨pp, y', rfl, sm, n0, h1, y⟩ := y
    exact hs i y' σ H pp H' (y xs q) p sm n0 h1
  · have e : i = xs.length := by omega
    subst e
    exact .inl ⟨⟨xs, q, Nat.le_refl _⟩, hd σ H p⟩
def Itz (K : PySem.W.Frag) (a b : Addr) : It :=
  ⟨fun i H => ∃ xs ys x y, SqL K H a xs ∧ SqL K H b ys ∧ xs[i]? = some x ∧ ys[i]? = some y,
   fun i H x H' => ∃ p y z, x = .ref p ∧ Same H H' ∧ H p = none ∧ H' p = some (.tup [y, z]) ∧ (∀ xs, SqL K H a xs → xs[i]? = some y) ∧ ∀ ys, SqL K H b ys → ys[i]? = some z,
   fun i H => ∃ xs ys, SqL K H a xs ∧ SqL K H b ys ∧ (xs.length ≤ i ∨ ys.length ≤ i)⟩
structure Zap (z TI TO i1 i2 : Addr) : Prop where
  n1 : TI ≠ z
  n2 : TO ≠ z
  n3 : i1 ≠ z
  n4 : i2 ≠ z
  n5 : TI ≠ TO
  n6 : TI ≠ i1
  n7 : TI ≠ i2
  n8 : TO ≠ i1
  n9 : TO ≠ i2
  n0 : i1 ≠ i2
def ZSt (z TI TO i1 i2 a b : Addr) (i : Nat) (h : Heap) : Prop :=
  IsZip h z TI TO .none ∧ IsPair h TI (.ref i1) (.ref i2) ∧ (∃ u v, IsPair h TO u v) ∧ h.IsListIter i1 a i ∧ h.IsListIter i2 b i
theorem ncls {h : Heap} {a b : Addr} {o o' : Obj} {n m : String} (h1 : h.get? a = some o) (h2 : h.get? b = some o') (c1 : o.cls = .type n) (c2 : o'.cls = .type m) (ne : n ≠ m) : a ≠ b := fun e => by
  subst e
  rw [h1] at h2
  cases h2
  rw [c1] at c2
  exact ne (by injection c2)
theorem zkL {h : Heap} {z TI TO i1 i2 a b : Addr} {i : Nat} {xs ys : Array Value} (D : Zap z TI TO i1 i2) (st : ZSt z TI TO i1 i2 a b i h) (l1 : h.IsList a xs) (l2 : h.IsList b ys) : ZipApart z TI TO i1 i2 a b := by
  obtain ⟨g1, g2, ⟨u, v, g3⟩, ⟨o4, g4, c4, _⟩, ⟨o5, g5, c5, _⟩⟩ := st
  obtain ⟨o6, g6, c6, _⟩ := l1
  obtain ⟨o7, g7, c7, _⟩ := l2
  exact ⟨D.n1, D.n2, D.n3, D.n4, D.n5, D.n6, D.n7, D.n8, D.n9, D.n0, ncls g6 g1 c6 rfl (by decide), ncls g6 g3 c6 rfl (by decide), ncls g6 g4 c6 c4 (by decide), ncls g6 g5 c6 c5 (by decide),
    ncls g7 g1 c7 rfl (by decide), ncls g7 g3 c7 rfl (by decide), ncls g7 g4 c7 c4 (by decide), ncls g7 g5 c7 c5 (by decide)⟩
theorem zki {P : Program} {w : World} {K : PySem.W.Frag} {elts : List Expr} {x1} {pos : Pos} (z TI TO i1 i2 a b : Addr) (D : Zap z TI TO i1 i2) :
    Turn P w K (.Tuple elts x1 pos) (Itz K a b) [z, TI, TO, i1, i2] z (ZSt z TI TO i1 i2 a b) where
  mem := by simp
  obj := fun i h st d hd => by
    obtain ⟨g1, g2, ⟨u, v, g3⟩, ⟨o4, g4, c4, d4⟩, ⟨o5, g5, c5, d5⟩⟩ := st
    simp only [List.mem_cons, List.not_mem_nil, or_false] at hd
    rcases hd with rfl | rfl | rfl | rfl | rfl
    · exact ⟨_, g1, fun v q => by have q' : Data.fields _ = Data.cell v := q; cases q'⟩
    · exact ⟨_, g2, fun v q => by have q' : Data.seq _ _ = Data.cell v := q; cases q'⟩
    · exact ⟨_, g3, fun v q => by have q' : Data.seq _ _ = Data.cell v := q; cases q'⟩
    · exact ⟨_, g4, fun v q => by rw [d4] at q; cases q⟩
    · exact ⟨_, g5, fun v q => by rw [d5] at q; cases q⟩
  keep := fun i h h' st k => by
    obtain ⟨g1, g2, ⟨u, v, g3⟩, g4, g5⟩ := st
    exact ⟨k z (by simp) _ g1, k TI (by simp) _ g2, ⟨u, v, k TO (by simp) _ g3⟩, g4.at fun o q => k i1 (by simp) o q, g5.at fun o q => k i2 (by simp) o q⟩
  item := by
    intro X hP hw hK hc i pins s σ H E I hf st hg
    subst hP hw hK
    obtain ⟨xs, ys, x, y, hq, hq', hx, hy⟩ := hg
    obtain ⟨its, rv, p, _⟩ := I.list hq
    obtain ⟨its', rv', p', _⟩ := I.list hq'
    obtain ⟨u, hu, ru⟩ := rv.get hx
    obtain ⟨u', hu', ru'⟩ := rv'.get hy
    have Z := zkL D st p.isList p'.isList
    obtain ⟨g1, g2, ⟨o1, o2, g3⟩, g4, g5⟩ := st
    have lt : ∀ b ∈ [z, TI, TO, i1, i2], b < s.heap.objs.size := fun b hb => by
      simp only [List.mem_cons, List.not_mem_nil, or_false] at hb
      rcases hb with rfl | rfl | rfl | rfl | rfl
      · exact Heap.lt_size g1
      · exact Heap.lt_size g2
      · exact Heap.lt_size g3
      · obtain ⟨o, q, _⟩ := id g4; exact Heap.lt_size q
      · obtain ⟨o, q, _⟩ := id g5; exact Heap.lt_size q
    refine wpAny_pyNext_zip_item Z g1 g2 g3 g4 g5 p.isList p'.isList (x := u) (y := u') (by simpa using hu) (by simpa using hu') fun h' a1 a2 a3 a4 a5 a6 hk => ?_
    refine ⟨_, rfl, wpAny_letOwnedTupleGo_zip a1 fun h'' he'' hs'' => ?_⟩
    have fr : H s.heap.objs.size = none := I.hok.fresh (Nat.le_refl _)
    have I1 : Inv X pins σ (upd H s.heap.objs.size (.tup [x, y])) { s with heap := s.heap.push { cls := .type "tuple", data := .seq #[u, u'] }, toks := s.toks } :=
      I.laid (fun b o q => Heap.get?_push_of_some _ q) (Nat.le_refl _) ⟨by show 2 ≤ sizeLine; decide, [u, u'], .cons ru (.cons ru' .nil), _, Heap.get?_push_size _ rfl, rfl, _, rfl⟩
    have hf1 : ∀ b ∈ [z, TI, TO, i1, i2], FpOk X pins (upd H s.heap.objs.size (.tup [x, y])) b := fun b hb => ⟨by rw [zah (Nat.ne_of_lt (lt b hb))]; exact (hf b hb).1, (hf b hb).2⟩
    have I2 : Inv X pins σ (upd H s.heap.objs.size (.tup [x, y])) { s with heap := h'', toks := s.toks } := by
      refine Inv.turnedL (s := { s with heap := s.heap.push { cls := .type "tuple", data := .seq #[u, u'] }, toks := s.toks }) (fp := [z, TI, TO, i1, i2]) I1 (fun b o hb q => ?_) hf1
      have q : (s.heap.push { cls := .type "tuple", data := .seq #[u, u'] }).get? b = some o := q
      simp only [List.mem_cons, List.not_mem_nil, or_false, not_or] at hb
      refine hs''.extBut b o hb.1 ?_
      rcases Heap.get?_push_cases q with ⟨e1, e2⟩ | q'
      · subst e1 e2
        exact a5
      · exact hk b o hb.1 hb.2.2.1 hb.2.2.2.1 hb.2.2.2.2 q'
    refine ⟨.ref s.heap.objs.size, _, I2, rfl, ⟨_, x, y, rfl, zaU fr _, fr, zai, fun l hl => by rw [I.list_inj hl hq]; exact hx, fun l hl => by rw [I.list_inj hl hq']; exact hy⟩,
      ⟨he'', hs''.extBut _ _ D.n1 (hk _ _ D.n1 D.n5 D.n6 D.n7 g2), ⟨_, _, hs''.extBut _ _ D.n2 a2⟩, a3.extBut hs''.extBut D.n3, a4.extBut hs''.extBut D.n4⟩, fun b hb => (hf1 b hb).1⟩
  done := by
    intro X hP hw hK hc i pins s σ H E I hf st hg
    subst hP hw hK
    obtain ⟨xs, ys, hq, hq', hx⟩ := hg
    obtain ⟨its, rv, p, _⟩ := I.list hq
    obtain ⟨its', rv', p', _⟩ := I.list hq'
    have Z := zkL D st p.isList p'.isList
    obtain ⟨g1, g2, ⟨o1, o2, g3⟩, g4, g5⟩ := st
    have hl := rv.length
    have hl' := rv'.length
    refine wpAny_pyNext_zip_end (I.ok.hd hc) Z g1 g2 g3 g4 g5 p.isList p'.isList (hx.imp (fun q => by simp; omega) fun q => by simp; omega) fun h' eb => ⟨rfl, ?_⟩
    refine Inv.turnedL (s := s) (t' := s.toks) (fp := [z, TI, TO, i1, i2]) I (fun b o hb q => ?_) hf
    simp only [List.mem_cons, List.not_mem_nil, or_false, not_or] at hb
    exact eb b o hb.1 hb.2.2.1 hb.2.2.2.1 hb.2.2.2.2 q
  self := fun _ _ _ _ _ st h => wpAny_pyIter_zip st.1 h
theorem zmu : bootBuiltins "zip" = some (.type "zip") := by decide +kernel
def iZip (K : PySem.W.Frag) (ta : TA) : TI := fun σ H R => ta σ H fun vs H1 => ∃ a b, vs = [.ref a, .ref b] ∧ (∃ xs, SqL K H1 a xs) ∧ (∃ ys, SqL K H1 b ys) ∧ R (Itz K a b) H1
theorem zmv {X : Cx} {elts : List Expr} {x1} {pos' : Pos} {a b : Expr} {ta : TA} {p pos : Pos} (hg : Gl X "zip") (hm : X.mg "zip" = none) (ha : PA X [a, b] ta) (hs : starEach [a, b] X.env = (false, eval a X.env) :: starEach [b] X.env := by rfl) (hp : (backTo pos (starEach [b] X.env)).any (·.1) = false := by rfl) :
    PI X (.Tuple elts x1 pos') (.Call (.Name "zip" p) [a, b] [] pos) (iZip X.K ta) := by
  with_unfolding_all
    intro pins s σ H R I h
    refine Call_ (zd2 I hg hm zmu (PyProof.Rows.callWith_type1 (thn (ha pos pins s σ H _ I h) fun us s1 ⟨vs, H1, I1, r1, q1⟩ => ?_) hs hp))
    obtain ⟨l, l', e, ⟨xs, hq⟩, ⟨ys, hq'⟩, q⟩ := q1
    subst e
    cases r1 with
    | cons r rr =>
      cases r
      cases rr with
      | cons r rr =>
        cases rr
        cases r
        obtain ⟨its, rv, pl, _⟩ := I1.list hq
        obtain ⟨its', rv', pl', _⟩ := I1.list hq'
        refine call_zip_2 pl.isList pl'.isList fun h' a1 a2 a3 a4 a5 a6 hk => ?_
        refine wpAny_pyIter_zip a1 ?_
        have I2 : Inv X pins σ H1 { s1 with heap := h', toks := s1.toks } := I1.kept hk
        have D : Zap (s1.heap.objs.size + 4) (s1.heap.objs.size + 2) (s1.heap.objs.size + 3) s1.heap.objs.size (s1.heap.objs.size + 1) := by
          constructor <;> (intro z; have z' := congrArg (fun (n : Addr) => (n : Nat)) z; simp at z')
        refine ⟨s1.heap.objs.size + 4, [s1.heap.objs.size + 4, s1.heap.objs.size + 2, s1.heap.objs.size + 3, s1.heap.objs.size, s1.heap.objs.size + 1], _, _, H1, rfl, I2, zki _ _ _ _ _ l l' D, ⟨a1, a2, ⟨_, _, a3⟩, a4, a5⟩, fun b hb => ?_, q⟩
        have le : s1.heap.objs.size ≤ b := by
          simp only [List.mem_cons, List.not_mem_nil, or_false] at hb
          rcases hb with rfl | rfl | rfl | rfl | rfl
          · exact Nat.le_add_right _ 4
          · exact Nat.le_add_right _ 2
          · exact Nat.le_add_right _ 3
          · exact Nat.le_refl _
          · exact Nat.le_add_right _ 1
        exact I1.fpOk le (I1.hok.fresh le)
theorem zkj {K : PySem.W.Frag} {a b : Addr} {xs ys : List V} {g : TG} {js : List Nat} {tc : TT} {te : TE} {σ : St} {H1 : Hp} {Q : VK} (f : Nat → V) (hl : SqL K H1 a xs) (hl' : SqL K H1 b ys) (hn : ys.length = xs.length)
    (hg : ∀ p x y Hh os (R : St → Hp → Prop), Hh p = some (.tup [x, y]) → os.length = 2 → R ([some x, some y] ++ caps σ js) Hh → g (.ref p) (os ++ caps σ js) Hh R)
    (ht : ∀ x y Hh (Q' : Bool → Hp → Prop), Q' true Hh → tc ([some x, some y] ++ caps σ js) Hh Q')
    (he : ∀ i x y Hh (Q' : VK), xs[i]? = some x → ys[i]? = some y → Same H1 Hh → (∀ Hh', Same Hh Hh' → Q' (f i) Hh') → te ([some x, some y] ++ caps σ js) Hh Q')
    (hz : xs.length < sizeLine) (q : ∀ D H2, Same H1 H2 → H1 D = none → H2 D = some (.lst ((List.range xs.length).map f)) → Q (.ref D) H2) :
    zeD (Itz K a b) 2 g js tc te σ H1 Q := by
  intro D H2 s2 hD h2
  refine ⟨fun i m acc H3 => m = xs.length - i ∧ i ≤ xs.length ∧ acc = (List.range i).map f ∧ Same H1 H3 ∧ H3 D = some (.lst acc), ⟨_, rfl, Nat.zero_le _, by simp, s2, h2⟩, ?_⟩
  rintro i m acc H3 ⟨rfl, hi, ea, s3, h3⟩
  have hl3 : SqL K H3 a xs := s3.seq hl
  have hl3' : SqL K H3 b ys := s3.seq hl'
  have hll : acc.length = i := by rw [ea, List.length_map, List.length_range]
  refine ⟨h3, by omega, ?_⟩
  by_cases hlt : i < xs.length
  · have hx : xs[i]? = some xs[i] := List.getElem?_eq_getElem hlt
    have hy : ys[i]? = some (ys[i]'(by omega)) := List.getElem?_eq_getElem (by omega)
    refine .inr ⟨⟨xs, ys, _, _, hl3, hl3', hx, hy⟩, fun os ol y H4 z => ?_⟩
    obtain ⟨p, y', z', rfl, sm, n0, h4, ey, ez⟩ := z
    have ey2 := ey xs hl3
    have ez2 := ez ys hl3'
    refine hg p y' z' _ os _ h4 ol ⟨[some y', some z'], rfl, rfl, ?_⟩
    refine ht y' z' _ _ (iteT ?_)
    refine he i y' z' _ _ ey2 ez2 (s3.trans sm) fun H6 s6 => ⟨s6 _ _ (sm _ _ h3), fun H7 k7 h7 => ⟨xs.length - (i + 1), by omega, rfl, hlt, ?_, fun c o e => ?_, h7⟩⟩
    · rw [List.range_succ, List.map_append, ← ea]
      rfl
    · by_cases hb : c = D
      · subst hb
        rw [hD] at e
        cases e
      · exact k7 c o hb (s6 c o (sm c o (s3 c o e)))
  · have e : i = xs.length := by omega
    subst e
    exact .inl ⟨⟨xs, ys, hl3, hl3', .inl (Nat.le_refl _)⟩, q D H3 s3 hD (by rw [h3, ea])⟩
end L2
set_option Elab.async false
set_option linter.all false
set_option maxRecDepth 100000
set_option maxHeartbeats 4000000
namespace L2
open PySem PySem.Spec PyProof.Rows
end L2
set_option Elab.async false
set_option linter.all false
set_option maxRecDepth 100000
set_option maxHeartbeats 4000000
namespace L2
open PySem PySem.Spec PyProof.Rows
structure RowOk (ds : List Cl) (lf : Int → Int) (h : Nat) (t : Int) (ws : List Int) : Prop where
  len : ws.length ≤ h
  nd : ws.Nodup
  inn : ∀ w, w ∈ ws → ∃ d, d ∈ ds ∧ d.n = w ∧ 1 ≤ lf w ∧ d.came ≤ t
  srt : ∀ (i : Nat) d e, ws[i]? = some d.n → ws[i + 1]? = some e.n → d ∈ ds → e ∈ ds → ahd d e t = true
  rest : ∀ d, d ∈ ds → d.n ∉ ws → 0 < lf d.n → d.came ≤ t → ws.length = h ∧ ∀ e, e ∈ ds → ws.getLast? = some e.n → ahd e d t = true
def dn (ws : List Int) (L : List (Int × Int)) : List (Int × Int) := L.map fun p => (p.1, if p.1 ∈ ws then p.2 - 1 else p.2)
end L2
set_option Elab.async false
set_option linter.all false
set_option maxRecDepth 100000
set_option maxHeartbeats 4000000
namespace PySem
open Sem (wp)
section
variable {prog : Program} {w : World} {A : Around} {E : Value → Shared → Prop} {s : Shared}
end
end PySem
set_option Elab.async false
set_option linter.all false
set_option maxRecDepth 100000
set_option maxHeartbeats 4000000
namespace PySem
open Sem (wp)
section
variable {prog : Program} {w : World} {A : Around} {E : Value → Shared → Prop} {s : Shared}
end
end PySem
set_option Elab.async false
set_option linter.all false
set_option maxRecDepth 100000
set_option maxHeartbeats 4000000
namespace L2
open PySem PySem.Spec PyProof.Rows
section
variable {X : Cx}
end
end L2
namespace L2
open PySem PySem.Spec PyProof.Rows
section
variable {X : Cx}
end
end L2
set_option Elab.async false
set_option linter.all false
set_option maxRecDepth 100000
set_option maxHeartbeats 4000000
namespace L2
open PySem PySem.Spec PyProof.Rows
section
variable {X : Cx}
def znc (K : PySem.W.Frag) (te : TE) (tk : TO) : TE := fun σ H Q => te σ H fun x H1 => tk σ H1 fun k H2 => k = some (-1) ∧ ∃ a xs, x = .ref a ∧ SqL K H2 a xs ∧ ∀ p H3, Same H2 H3 → H2 p = none → H3 p = some (.lst xs.reverse) → Q (.ref p) H3
theorem zlC {e : Expr} {te : TE} {st : Expr} {tk : TO} {pos p2 : Pos} (he : PE X e te) (hk : PO X (some st) tk) : PE X (.Subscript e (.Slice none none (some st) p2) pos) (znc X.K te tk) := by
  with_unfolding_all
    intro pins s σ H Q I h
    refine Subscript_ (thn (he pins s σ H _ I h) fun v s1 ⟨x, H1, I1, r1, q1⟩ => ?_)
    refine wpAny_Slice ?_
    rw [evalPart_none]
    refine wpAny_pure ?_
    refine wpAny_pure ?_
    refine thn (hk pins s1 σ H1 _ I1 q1) fun vk s3 ⟨k, H3, I3, pk, q3⟩ => ?_
    obtain ⟨rfl, a, xs, rfl, hx, q⟩ := q3
    cases r1
    have I4 : Inv X pins σ H3 { s3 with heap := s3.heap.push { cls := .type "slice", data := .fields #[.none, .none, vk] } } := I3.kept (t' := s3.toks) fun b ob q => Heap.get?_push_of_some _ q
    obtain ⟨its, r, ht, hz⟩ := I4.list hx
    have hlen := r.length
    show wpAny (model X.prog X.w) X.A (subscriptTail e (.Slice none none (some st) p2) (.ref a) (.ref s3.heap.objs.size)) (EP X pins σ Q) X.xe { s3 with heap := s3.heap.push { cls := .type "slice", data := .fields #[.none, .none, vk] } }
    refine tail_any (ops := [.ref a, .ref s3.heap.objs.size]) ht.isList.typeIs slot_list_getitem.lookup ?_ (by with_unfolding_all rfl)
    refine wpAny_getItem_list_slice ht.isList (Heap.IsSliceOf.new ..) .none .none pk (by decide) ?_ (by rw [List.size_toArray] <;> omega)
    rw [PySem.W.krv_pick]
    have fr := I4.hok.fresh (Nat.le_refl _)
    refine ⟨.ref _, _, I4.laid (t' := s3.toks) (o := .lst xs.reverse) (fun b ob q => Heap.get?_push_of_some _ q) (Nat.le_refl _) ?_, rfl, q _ _ (zaU fr _) fr zai⟩
    exact ⟨by rw [List.length_reverse]; exact hz, _, 0, r.reverse, Heap.get?_push_size _ rfl⟩
def zmw (K : PySem.W.Frag) : V → Option Int → Option Int → Hp → VK → Prop := fun x lo hi H Q => ∃ a xs, x = .ref a ∧ SqT K H a xs ∧
  ¬ (HT.sIx xs.length 0 lo = 0 ∧ HT.sIx xs.length xs.length hi = xs.length) ∧ ∀ p H2, Same H H2 → H p = none → H2 p = some (.tup (cutV xs lo hi)) → Q (.ref p) H2
theorem zjk {K : PySem.W.Frag} (hK : X.K = K) : SlR X (zmw K) := by
  subst hK
  intro pins s σ H v u vl vu lo hi sl Q I rx hs pl pu h
  obtain ⟨a, xs, e, hx, ne, q⟩ := h
  exact zlY pins s σ H v u vl vu lo hi sl Q I rx hs pl pu ⟨a, xs, e, hx, ne, fun p n => q p _ (zaU n _) n zai⟩
def zkM (K : PySem.W.Frag) : R2 := fun x y H Q => ∃ a b xs ys, x = .ref a ∧ y = .ref b ∧ SqT K H a xs ∧ SqT K H b ys ∧ xs ≠ [] ∧ ys ≠ [] ∧ xs.length + ys.length ≤ sizeLine ∧ ∀ p H2, Same H H2 → H p = none → H2 p = some (.tup (xs ++ ys)) → Q (.ref p) H2
theorem zht {K : PySem.W.Frag} (hK : X.K = K) : OpR X (binaryOp .Add) (zkM K) := by
  subst hK
  intro pins s σ H x y v u Q I rx ry h
  obtain ⟨a, b, xs, ys, e1, e2, ha, hb, n1, n2, hz, q⟩ := h
  exact zlc pins s σ H x y v u Q I rx ry ⟨a, b, xs, ys, e1, e2, ha, hb, n1, hz, fun z => absurd z n2, fun _ p hp => q p _ (zaU hp _) hp zai⟩
end
theorem zjl {K : PySem.W.Frag} {a : Addr} {xs : List V} {js : List Nat} {tc : TT} {te : TE} {σ : St} {H1 : Hp} {Q : VK} (f : Nat → V) (w : Nat → List V) (hl : SqL K H1 a xs)
    (ht : ∀ (i : Nat) x Hh (Q' : Bool → Hp → Prop), xs[i]? = some x → Same H1 Hh → (∀ Hh', Same Hh Hh' → Q' true Hh') → tc (some x :: caps σ js) Hh Q')
    (he : ∀ (i : Nat) x Hh (Q' : VK), xs[i]? = some x → Same H1 Hh → (∀ b m Hh', Same Hh Hh' → Hh m = none → Hh' b = some (.tup [f i, .ref m]) → Hh' m = some (.lst (w i)) → Q' (.ref b) Hh') → te (some x :: caps σ js) Hh Q')
    (hz : xs.length < sizeLine) (q : ∀ D H2 (bs : List (Addr × Addr)), Same H1 H2 → H1 D = none → H2 D = some (.lst (bs.map fun b => V.ref b.1)) → bs.length = xs.length → (∀ (i : Nat) b, bs[i]? = some b → H2 b.1 = some (.tup [f i, .ref b.2]) ∧ H2 b.2 = some (.lst (w i))) → Q (.ref D) H2) :
    ze6 (Itl K a) js tc te σ H1 Q := by
  intro D H2 s2 hD h2
  refine ⟨fun i m acc H3 => m = xs.length - i ∧ i ≤ xs.length ∧ ∃ bs : List (Addr × Addr), acc = (bs.map fun b => V.ref b.1) ∧ bs.length = i ∧ (∀ (j : Nat) b, bs[j]? = some b → H3 b.1 = some (.tup [f j, .ref b.2]) ∧ H3 b.2 = some (.lst (w j)) ∧ b.2 ≠ D) ∧ Same H1 H3 ∧ H3 D = some (.lst acc), ⟨_, rfl, Nat.zero_le _, [], rfl, rfl, fun j b hb => by simp at hb, s2, h2⟩, ?_⟩
  rintro i m acc H3 ⟨rfl, hi, bs, ea, eb, rb, s3, h3⟩
  have hl3 : SqL K H3 a xs := s3.seq hl
  have hll : acc.length ≤ xs.length := by
    rw [ea, List.length_map]
    omega
  refine ⟨h3, by omega, ?_⟩
  by_cases hlt : i < xs.length
  · have hx : xs[i]? = some xs[i] := List.getElem?_eq_getElem hlt
    refine .inr ⟨⟨xs, _, hl3, hx⟩, fun y H4 z => ?_⟩
    obtain ⟨e, ey⟩ := z
    have ey2 := ey xs hl3
    subst e
    refine ht i y _ _ ey2 s3 fun H5 s5 => ?_
    have h5 := s5 _ _ h3
    have s35 := s3.trans s5
    refine iteT (he i y _ _ ey2 s35 fun b6 m6 H6 s6 n6 g6 w6 => ⟨s6 _ _ h5, fun H7 k7 h7 => ⟨xs.length - (i + 1), by omega, rfl, hlt, bs ++ [(b6, m6)], ?_, by rw [List.length_append, eb]; rfl, fun j b hj => ?_, fun b o e => ?_, h7⟩⟩)
    · rw [ea, List.map_append]
      rfl
    · have nD : ∀ c t, H6 c = some (.tup t) → c ≠ D := fun c t g z => by
        rw [z, s6 _ _ h5] at g
        cases g
      have mD : m6 ≠ D := fun z => by rw [z, h5] at n6; cases n6
      by_cases z : j < bs.length
      · rw [List.getElem?_append_left z] at hj
        obtain ⟨r1, r2, r3⟩ := rb j b hj
        have g1 := s6 _ _ (s5 _ _ r1)
        exact ⟨k7 _ _ (nD _ _ g1) g1, k7 _ _ r3 (s6 _ _ (s5 _ _ r2)), r3⟩
      · rw [List.getElem?_append_right (by omega)] at hj
        cases y : j - bs.length with
        | zero =>
          rw [y] at hj
          cases hj
          rw [show j = i by omega]
          exact ⟨k7 _ _ (nD _ _ g6) g6, k7 _ _ mD w6, mD⟩
        | succ n => rw [y] at hj; cases hj
    · by_cases hbD : b = D
      · subst hbD
        rw [hD] at e
        cases e
      · exact k7 b o hbD (s6 b o (s35 b o e))
  · have e : i = xs.length := by omega
    subst e
    refine .inl ⟨⟨xs, hl3, Nat.le_refl _⟩, ?_⟩
    rw [ea] at h3
    exact q D _ bs s3 hD h3 eb fun j b hj => ⟨(rb j b hj).1, (rb j b hj).2.1⟩
end L2
namespace L2
open PySem PySem.Spec PyProof.Rows
section
variable {X : Cx} {tg : Expr}
@[irreducible] def PIi (X : Cx) (tg iter : Expr) (wi : TI) : Prop := PI X tg iter wi
theorem zkk {l : Expr} {tl : TE} (hl : PE X l tl) : PIi X tg l (zlP X.K tl) := by
  unfold PIi
  exact zaE hl
theorem zlD {iter : Expr} {body : List Stmt} {wi : TI} {g : TG} {tb : TS} {pos : Pos} (hp : PassesOwn (model X.prog X.w) X.A X.env X.xe) (hc : X.calm = true) (hi : PIi X tg iter wi) (hg : PG X tg g) (hb : PSs X body tb)
    (hs : ∀ x, foldedSetIterable iter X.env x = pure x := by intro _; rfl) : PS X (.For tg iter body [] pos) (tFor wi g tb) := by
  unfold PIi at hi
  exact zc2 hp hc hi hg hb hs
end
end L2
set_option Elab.async false
set_option linter.all false
set_option maxRecDepth 100000
set_option maxHeartbeats 4000000
namespace L2
open PySem PySem.Spec PyProof.Rows
structure MOk (CX : CXT) (P : Program) (w : World) (K : PySem.W.Frag) (mg : Str → Option Value) (base : Heap) (k : Nat) (C : Addr) (m : Str) (sp : Sp) : Prop where
  cl : Cls K C
  ex : ∃ f fd ps, Meth K C m f ∧ FnOk P w K mg base CX k f fd ps sp ∧ zb6 K fd ps []
section
variable {X : Cx} {CX : CXT} {k : Nat} {E : XK} {m : Str} {pos apos : Pos} {e o : Expr} {es : List Expr} {ta : TE} {t : TA}
end
structure FunE (K : PySem.W.Frag) (x qual : Str) (st : Stmt) (f : Addr) (fd : FuncData) (u : Value) : Prop where
  ex : ∃ (oc : Value) (od : Option Addr) (T : Addr) (kV doc pm : Value) (an : Option Addr) (cdv ct : Value) (osl : Array (Option Value)) (o : Obj) (n : Nat),
    fd = PySem.W.fnOf x qual (zan st) (zaj st) (zad st) (.ref T) kV doc pm an cdv ct ∧ K.lookup f = some ⟨oc, od, .func fd, osl⟩ ∧ PySem.W.codeIn K cdv qual = true ∧ K.lookup T = some o ∧ o.data = .seq #[u] n
  kp : PySem.W.keepIn K (.ref f) = true
def zmx (K : PySem.W.Frag) (names : List Str) : Sp := fun vs H Q _ => ∃ (x C dx : Addr) (args : List V), vs = .ref x :: args ∧ H x = some (.ins C dx []) ∧ Cls K C ∧ (∀ f, f ∈ names → zd4 K C f) ∧ args.length = names.length ∧
  ∀ H', But x H H' → H' x = some (.ins C dx (names.zip args)) → Q .non H'
structure Mak (P : Program) (w : World) (K : PySem.W.Frag) (mg : Str → Option Value) (base : Heap) (x : Str) (C : Addr) (k : Nat) (names : List Str) (dv : V) : Prop where
  cl : Cls K C
  no : ∀ f, f ∈ names → zd4 K C f
  ex : ∃ f fd ps u, Mk K C f ∧ FnOk P w K mg base CX0 k f fd ps (zmx K names) ∧ zb6 K fd ps [] ∧ (RelV dv u → zb6 K fd ps [u]) ∧ RelV dv u ∧ mg x = some (.ref C)
section
variable {X : Cx} {k : Nat} {x : Str} {C : Addr} {names : List Str} {dv : V} {p pos : Pos} {e : Expr} {es : List Expr} {t : TA}
end
structure Own (K : PySem.W.Frag) (C : Addr) : Prop where
  cl : Cls K C
  ha : PySem.W.findIn K (.ref C) "__class__" = some (some (.builtin "object.__class__"))
  hn : PySem.W.specialIn K (.builtin "object.__class__") "__get__" = some (some (.builtin "getset_descriptor.__get__"))
  htk : PySem.W.takesIn K (.builtin "object.__class__") = some true
  hm : PySem.W.mroIn K C (.type "object") = some true
structure Mfn (K : PySem.W.Frag) (x qual : Str) (st : Stmt) (ps : List Str) (f : Addr) (fd : FuncData) : Prop where
  F : Fun K x qual st f fd
  b : zb6 K fd ps []
structure MfnE (K : PySem.W.Frag) (x qual : Str) (st : Stmt) (ps : List Str) (f : Addr) (fd : FuncData) (u : Value) : Prop where
  F : FunE K x qual st f fd u
  b : zb6 K fd ps []
  bd : zb6 K fd ps [u]
section
variable {X : Cx} {o value : Expr} {f : Str} {pos pos' : Pos} {ta tv : TE}
end
section
variable {X : Cx} {k : Nat} {ps : List Str} {sp : Sp} {x : Str} {p pos : Pos}
end
end L2
set_option Elab.async false
set_option linter.all false
set_option maxRecDepth 100000
set_option maxHeartbeats 4000000
namespace L2
open PySem PySem.Spec PyProof.Rows
section
variable {κ : Type} [DecidableEq κ]
variable {prog : Program} {w : World} {knd : KeyKind prog w κ}
end
end L2
set_option Elab.async false
set_option linter.all false
set_option maxRecDepth 100000
set_option maxHeartbeats 4000000
namespace L2
open PySem PySem.Spec PyProof.Rows
section
variable {X : Cx} {a : Expr} {ta : TA} {p p2 pos pos2 : Pos}
end
section
variable {X : Cx} {CX : CXT} {k : Nat} {f C : Addr} {fd : FuncData} {ps : List Str} {sp spi : Sp} {E : XK} {x m : Str} {p pos apos : Pos} {e o : Expr} {es : List Expr} {ta : TE} {t : TA}
structure MakG (CX : CXT) (P : Program) (w : World) (K : PySem.W.Frag) (mg : Str → Option Value) (base : Heap) (x : Str) (C : Addr) (k : Nat) (sp : Sp) : Prop where
  ex : ∃ f fd ps spi, Mk K C f ∧ FnOk P w K mg base CX k f fd ps spi ∧ zb6 K fd ps [] ∧ mg x = some (.ref C) ∧
    ∀ vs H Q E, sp vs H Q E → ∀ y dx, H y = none → H dx = none → dx ≠ y → spi (.ref y :: vs) (upd (upd H dx (.own y)) y (.ins C dx [])) (fun v H2 => v = .non ∧ Q (.ref y) H2) E
end
end L2
set_option Elab.async false
set_option linter.all false
set_option maxRecDepth 100000
set_option maxHeartbeats 4000000
namespace K63
open PySem L2
local macro_rules | `(tactic| walk_at "same") => `(tactic| first | exact Same.refl _ | assumption | (refine Same.trans (by assumption) ?_; walk_at "same"))
local macro_rules | `(tactic| walk_at "sq") => `(tactic| first | assumption | exact SqT.of (by assumption) | exact SqL.of (by assumption) | (refine Same.tup (by assumption) ?_; walk_at "sq") | (refine Same.seq (by assumption) ?_; walk_at "sq") | (refine Same.use (by assumption) ?_; walk_at "sq"))
local macro_rules | `(tactic| walk_at "leaf") => `(tactic| first | rfl | assumption | walk_at "sq" | (refine Or.inl ?_; walk_at "sq") | (refine Or.inr ?_; walk_at "sq") | exact sz _ (by decide) | exact ⟨by decide, by decide⟩ | exact ⟨by decide, by decide, by decide⟩ | exact Or.inl ⟨by decide, by decide⟩ | exact Or.inr ⟨by decide, by decide⟩ | (dsimp only; omega) | omega | exact Or.inl ⟨by omega, by omega⟩ | exact Or.inr ⟨by omega, by omega⟩ | exact ⟨by omega, by omega⟩ | (show (0 : Int) < _; decide))
local macro_rules | `(tactic| walk_at "rd") => `(tactic| repeat (first | apply Exists.intro | refine And.intro (by walk_at "leaf") ?_ | refine iteT ?_ | refine iteF ?_))
def top (i : Nat) : Stmt := PySem.Challenge.pw_greywait_k63_whole_what_shows_a_latest_t.main.body.getD i (.Pass ⟨0, 0, 0, 0⟩)
abbrev zbN : Stmt := top 5
abbrev zaP : Stmt := top 7
abbrev zaS : Stmt := top 9
abbrev zbx : Stmt := top 10
abbrev zak : Stmt := top 11
abbrev zaH : Stmt := top 12
abbrev zaQ : Stmt := top 14
abbrev zaT : Stmt := top 15
abbrev zby : Stmt := top 16
abbrev za0 : Stmt := top 18
abbrev zcK : Stmt := top 19
abbrev za5 : Stmt := top 20
abbrev zbz : Stmt := top 21
abbrev zbO : Stmt := top 22
abbrev za6 : Stmt := top 24
abbrev za7 : Stmt := top 25
abbrev zbh : Stmt := top 26
abbrev za8 : Stmt := top 27
abbrev za1 : Stmt := top 28
abbrev zbP : Stmt := top 30
abbrev zck : Stmt := top 31
abbrev zbQ : Stmt := top 32
abbrev zbA : Stmt := top 33
abbrev zbi : Stmt := top 34
abbrev zbR : Stmt := top 35
abbrev zbB : Stmt := top 36
abbrev zbS : Stmt := top 37
abbrev zcl : Stmt := top 38
abbrev zbj : Stmt := top 39
abbrev zbT : Stmt := top 40
abbrev zbU : Stmt := top 41
abbrev zbC : Stmt := top 42
abbrev zcm : Stmt := top 43
abbrev zbD : Stmt := top 44
abbrev zbE : Stmt := top 45
abbrev zeQ : Stmt := top 46
abbrev zce : Stmt := zlg (top 2) 0
theorem zgH : FnScope ["self", "number"] ["self", "number"] (zad zce) := ⟨rfl, rfl, rfl, by decide +kernel, rfl, by decide +kernel, by decide +kernel⟩
structure Txt (K : PySem.W.Frag) (mg : Str → Option Value) (c_WaitError c_NoPiece c_NoEnd : Addr) : Prop where
  nd : [c_NoPiece].Nodup
  g_NoPiece : mg "NoPiece" = some (.ref c_NoPiece)
  d_NoPiece : XD K c_NoPiece [.ref c_WaitError, .type "ValueError", .type "Exception", .type "BaseException", .type "object"]
  x_NoPiece : XCls K c_NoPiece
  n_NoPiece : zd4 K c_NoPiece "number"
  zmy : mg "all" = none
  zne : mg "any" = none
  zjm : mg "bool" = none
  zeH : mg "enumerate" = none
  zh3 : mg "int" = none
  zaN : mg "isinstance" = none
  zdS : mg "len" = none
  zdI : mg "list" = none
  zmz : mg "max" = none
  znf : mg "min" = none
  zjn : mg "range" = none
  zhu : mg "sorted" = none
  zgI : mg "tuple" = none
  zng : mg "zip" = none
  zbk : PySem.W.kitOne K (.type "list") (.type "list") = some true
  zaW : PySem.W.kitOne K (.type "tuple") (.type "tuple") = some true
  zcn : PySem.W.kitOne K (.type "int") (.type "int") = some true
  zbV : PySem.W.kitOne K (.type "int") (.type "bool") = some false
  za9 : PySem.W.kitOne K (.type "bool") (.type "bool") = some true
  q_NoneType_bool : PySem.W.kitOne K (.type "NoneType") (.type "bool") = some false
  q_NoneType_int : PySem.W.kitOne K (.type "NoneType") (.type "int") = some false
  zcf : PySem.W.kitOne K (.type "str") (.type "bool") = some false
  zco : PySem.W.kitOne K (.type "str") (.type "int") = some false
  q_NoneType_list : PySem.W.kitOne K (.type "NoneType") (.type "list") = some false
  zcE : PySem.W.kitOne K (.type "int") (.type "list") = some false
  zcL : PySem.W.kitOne K (.type "bool") (.type "list") = some false
  zcF : PySem.W.kitOne K (.type "str") (.type "list") = some false
  zbF : PySem.W.kitOne K (.type "tuple") (.type "list") = some false
  zcp : PySem.W.kitOne K (.type "dict") (.type "list") = some false
  q_NoneType_tuple : PySem.W.kitOne K (.type "NoneType") (.type "tuple") = some false
  zbW : PySem.W.kitOne K (.type "int") (.type "tuple") = some false
  zb5 : PySem.W.kitOne K (.type "list") (.type "tuple") = some false
  zcG : PySem.W.kitOne K (.type "bool") (.type "int") = some true
section
variable {c_WaitError c_NoPiece c_NoEnd : Addr}
variable {P : Program} {w : World} {K : PySem.W.Frag} {mg : Str → Option Value} {base : Heap} {f : Addr} {fd : FuncData}
def zkN (K : PySem.W.Frag) : Sp := fun vs H Q _ => ∃ (a : Addr) (ns : List Int) (k : Int), vs = [.ref a, .int k] ∧ SqL K H a (ns.map V.int) ∧ 0 ≤ k ∧ ∀ v : Int, Q (.int v) H
def zmA : Sp := fun vs H Q _ => ∃ x y : Int, vs = [.int x, .int y] ∧ 0 ≤ x ∧ 0 ≤ y ∧ Q (.int (M1.gd x y)) H
def zhv : Sp := fun vs H Q _ => ∃ x k : Int, vs = [.int x, .int k] ∧ 0 ≤ k ∧ ∀ p H' t b, Same H H' → IsW H' p t b → Q (.ref p) H'
theorem pow6 : (10 : Int) ^ (6 : Int).toNat = 1000000 := by decide
def zcV : Pos := match (zaj zak).getLast? with
  | some (.Return (some (.Call _ _ [⟨_, .Lambda _ _ _ lp, _⟩] _)) _) => lp
  | _ => ⟨0, 0, 0, 0⟩
def lamQ : Str := (("claims_in_order" : Str) ++ ".<locals>.") ++ "<lambda>"
variable {tT : Addr}
def ziM (K : PySem.W.Frag) (tT : Addr) : Sp := fun vs H Q _ => ∃ (a : Addr) (ns : List Int), vs = [.ref a] ∧ SqL K H a (ns.map V.int) ∧ ns.length ≤ 63 ∧ H tT = some (.tbl zcV lamQ) ∧ ∀ H', Q (.bl true) H'
def zhw (K : PySem.W.Frag) : Sp := fun vs H Q _ => ∃ (l : Addr) (ps : List (Addr × Cl)), vs = [.ref l] ∧ IsCs K H l ps ∧ Good (ps.map (·.2)) ∧ ∀ M H', Same H H' → 0 < M → M ≤ 27720 → (∀ c ∈ ps.map (·.2), c.wb ∣ M ∧ c.sb ∣ M) → Q (.int M) H'
def zmB (K : PySem.W.Frag) : Sp := fun vs H Q _ => ∃ (p : Addr) (c : Cl) (t M : Int), vs = [.ref p, .int t, .int M] ∧ IsCl K H p c ∧ c.Ok ∧ 0 < M ∧ M ≤ 27720 ∧ ∀ r H', Same H H' → H' r = some (.tup ((kM c t M).map V.int)) → Q (.ref r) H'
def zjo (K : PySem.W.Frag) (tT : Addr) : Sp := fun vs H Q _ => ∃ (l : Addr) (ps : List (Addr × Cl)) (t : Int), vs = [.ref l, .int t] ∧ IsCs K H l ps ∧ Good (ps.map (·.2)) ∧ ps.length ≤ 40 ∧ H tT = some (.tbl zcV lamQ) ∧
  ∀ D H' (qs : List (Addr × Cl)), Same H H' → H D = none → H' D = some (.lst (qs.map fun q => V.ref q.1)) → qs.Perm ps → Srt t (qs.map (·.2)) → Q (.ref D) H'
def zf9 (K : PySem.W.Frag) (tT : Addr) : Sp := fun vs H Q _ => ∃ (l : Addr) (ps : List (Addr × Cl)) (t : Int), vs = [.ref l, .int t] ∧ IsCs K H l ps ∧ Good (ps.map (·.2)) ∧ ps.length ≤ 40 ∧ H tT = some (.tbl zcV lamQ) ∧
  ∀ m H', Same H H' → H m = none → H' m = some (.lst (((ord (ps.map (·.2)) t).map (·.n)).map V.int)) → Q (.ref m) H'
structure ChIn (K : PySem.W.Frag) (H : Hp) (l : Addr) (xs : List (Addr × Cl × Int)) : Prop where
  chs : IsChs K H l xs
  len : xs.length ≤ 40
  ok : ∀ q, q ∈ xs → ChOk 1000 q.2
  nd : (xs.map (·.2.1.n)).Nodup
theorem ChIn.same {H H' : Hp} {l : Addr} {xs : List (Addr × Cl × Int)} (s : Same H H') (h : ChIn K H l xs) : ChIn K H' l xs := ⟨h.chs.same s, h.len, h.ok, h.nd⟩
theorem ChIn.good {H : Hp} {l : Addr} {xs : List (Addr × Cl × Int)} (h : ChIn K H l xs) (t : Int) : Good (csOf t xs) := zjd (fun q hq => (h.ok q hq).ok) h.nd
def zhx (K : PySem.W.Frag) (tT : Addr) : Sp := fun vs H Q _ => ∃ (l : Addr) (xs : List (Addr × Cl × Int)) (h t : Int), vs = [.ref l, .int h, .int t] ∧ ChIn K H l xs ∧ 0 ≤ h ∧ H tT = some (.tbl zcV lamQ) ∧ ∀ m H', Same H H' → H m = none → H' m = some (.lst ((zbH t h.toNat xs).map V.int)) → Q (.ref m) H'
def zel (K : PySem.W.Frag) : Sp := fun vs H Q _ => ∃ (l m : Addr) (xs : List (Addr × Cl × Int)) (ws : List Int), vs = [.ref l, .ref m] ∧ ChIn K H l xs ∧ H m = some (.lst (ws.map V.int)) ∧ ∀ D H' bs, Same H H' → H D = none → IsBh H' D (behL H ws xs) bs → Q (.ref D) H'
def zjp (K : PySem.W.Frag) (tT : Addr) : Sp := fun vs H Q _ => ∃ (l : Addr) (xs : List (Addr × Cl × Int)) (h t : Int), vs = [.ref l, .int h, .int t] ∧ ChIn K H l xs ∧ 0 ≤ h ∧ H tT = some (.tbl zcV lamQ) ∧
  ∀ p m D H' bs, Same H H' → H' p = some (.tup [.ref m, .ref D]) → H m = none → H D = none → m ≠ D → H' m = some (.lst ((zbH t h.toNat xs).map V.int)) → IsBh H' D (behL H (zbH t h.toNat xs) xs) bs → Q (.ref p) H'
theorem ChIn.next {H H' : Hp} {l D : Addr} {xs : List (Addr × Cl × Int)} {ws : List Int} {bs : List (Addr × List V)} (hI : ChIn K H l xs) (s : Same H H') (B : IsBh H' D (behL H ws xs) bs) :
    ChIn K H' D (zipB bs (behL H ws xs)) ∧ (zipB bs (behL H ws xs)).map (·.2) = bhC ws (xs.map (·.2)) := by
  obtain ⟨c1, c2⟩ := B.chs (K := K) fun k hk => by
    obtain ⟨q0, hq0, e, _⟩ := zhr hk
    rw [e]
    exact (hI.chs.ch q0 hq0).kc.2.same s
  have cn : (zipB bs (behL H ws xs)).map (·.2.1.n) = (behL H ws xs).map (·.2.1.n) := by
    have := congrArg (List.map fun x : Cl × Int => x.1.n) c2
    rw [List.map_map, List.map_map] at this
    exact this
  refine ⟨⟨c1, ?_, fun q' hq' => ?_, ?_⟩, by rw [c2, zmn]⟩
  · have := congrArg List.length c2
    rw [List.length_map, List.length_map] at this
    rw [this]
    exact Nat.le_trans (zj9 _ _ _) hI.len
  · have : q'.2 ∈ (behL H ws xs).map (·.2) := by
      rw [← c2]
      exact List.mem_map.mpr ⟨q', hq', rfl⟩
    obtain ⟨k, hk, e⟩ := List.mem_map.mp this
    obtain ⟨q0, hq0, e2, pos⟩ := zhr hk
    have o := hI.ok q0 hq0
    rw [← e, e2]
    have le : zbq ws q0.2 ≤ q0.2.2 := by
      unfold zbq
      split <;> omega
    exact ⟨o.ok, Int.le_of_lt pos, Int.le_trans le o.l1, o.cm⟩
  · rw [cn]
    exact zlw hI.nd
structure RunOf (H0 H : Hp) (h : Nat) (b : Int) (c : Ch) (D : Addr) (rs : List (Addr × Addr × Int × List Int)) : Prop where
  run : IsRun H D rs
  new : ∀ r, r ∈ rs → H0 r.2.1 = none
  ne : ∀ r, r ∈ rs → r.2.1 ≠ D
  eq : ∃ n, rs.map (fun r => (r.2.2.1, r.2.2.2)) = (runN h n b (bhC [] c)).1 ∧ (runN h n b (bhC [] c)).2 = [] ∧ ∀ k, k < n → (runN h k b (bhC [] c)).2 ≠ []
theorem zkO : ∀ {c : Ch}, (∀ k, k ∈ c → k.2 ≤ 12) → sumC c ≤ 12 * c.length
  | [], _ => Nat.le_refl _
  | k :: c, h => by
    have ih := zkO (c := c) fun j hj => h j (List.mem_cons_of_mem _ hj)
    have := h k List.mem_cons_self
    unfold sumC at *
    simp
    omega
theorem ChIn.sum {H : Hp} {l : Addr} {xs : List (Addr × Cl × Int)} (hI : ChIn K H l xs) : sumC (xs.map (·.2)) ≤ 480 := by
  have a := zkO (c := xs.map (·.2)) fun k hk => by
    obtain ⟨q, hq, rfl⟩ := List.mem_map.mp hk
    exact (hI.ok q hq).l1
  have := hI.len
  rw [List.length_map] at a
  omega
theorem ChIn.cm {H : Hp} {l : Addr} {xs : List (Addr × Cl × Int)} (hI : ChIn K H l xs) : ∀ k, k ∈ xs.map (·.2) → k.1.came ≤ 1000 := fun k hk => by
  obtain ⟨q, hq, rfl⟩ := List.mem_map.mp hk
  exact (hI.ok q hq).cm
theorem zga (xs : List V) (n : Nat) : cutV xs none (some (n : Int)) = xs.take n := by
  unfold cutV
  rw [HT.sIx_none, HT.sIx_nat, List.drop_zero, Nat.sub_zero, Nat.min_def]
  split
  · rfl
  · rw [List.take_of_length_le (by omega), List.take_of_length_le (by omega)]
def zjq : Sp := fun vs H Q _ => ∃ l : Addr, vs = [.ref l, .non] ∧ Q (.ref l) H
def zmC (K : PySem.W.Frag) (tT : Addr) : Sp := fun vs H Q _ => ∃ (l : Addr) (xs : List (Addr × Cl × Int)) (h b : Int), vs = [.ref l, .int h, .int b, .non] ∧ ChIn K H l xs ∧ 0 < h ∧ 0 ≤ b ∧ b ≤ 1000 ∧ H tT = some (.tbl zcV lamQ) ∧
  ∀ D H' rs, Same H H' → H D = none → RunOf H H' h.toNat b (xs.map (·.2)) D rs → (∀ r, r ∈ rs → r.2.2.2.length ≤ 40) → rs.length ≤ 1481 → Q (.ref D) H'
theorem zkP {H : Hp} {l : Addr} {xs : List (Addr × Cl × Int)} (hI : ChIn K H l xs) (t : Int) (h : Nat) : (zbH t h xs).length ≤ 40 := by
  unfold zbH
  rw [List.length_take, List.length_map, (zdG _ _).length_eq]
  have : (csOf t xs).length ≤ xs.length := by
    unfold csOf
    rw [List.length_map]
    exact List.length_filter_le _ _
  have := hI.len
  omega
def zgb (K : PySem.W.Frag) (H : Hp) (x : V) : Prop := ∃ t, TyOf K H x t ∧ (PySem.W.kitOne K t (.type "bool") = some true ∨ (PySem.W.kitOne K t (.type "bool") = some false ∧ PySem.W.kitOne K t (.type "int") = some false))
theorem zgb.same {H H' : Hp} {x : V} (s : Same H H') (h : zgb K H x) : zgb K H' x := let ⟨t, ty, k⟩ := h; ⟨t, ty.same s, k⟩
def zda (K : PySem.W.Frag) : Sp := fun vs H Q _ => ∃ (x : V) (lo hi : Int), vs = [x, .int lo, .int hi] ∧ ((∃ i, x = .int i ∧ Q (.bl (decide (lo ≤ i) && decide (i ≤ hi))) H) ∨ (zgb K H x ∧ Q (.bl false) H))
def NoPc (K : PySem.W.Frag) (H : Hp) (xs : List (Addr × Cl × Int)) (x : V) : Prop := zgb K H x ∨ ∃ i : Int, x = .int i ∧ ∀ k, k ∈ xs → 0 < k.2.2 → k.2.1.n ≠ i
def zjr (K : PySem.W.Frag) : Sp := fun vs H Q _ => ∃ (l : Addr) (xs : List (Addr × Cl × Int)) (x : V), vs = [.ref l, x] ∧ ChIn K H l xs ∧ ((∃ k, k ∈ xs ∧ 0 < k.2.2 ∧ x = .int k.2.1.n ∧ ∀ H', Same H H' → Q (.bl true) H') ∨ (NoPc K H xs x ∧ ∀ H', Same H H' → Q (.bl false) H'))
def zkQ (K : PySem.W.Frag) (cP : Addr) : Sp := fun vs H Q E => ∃ (l : Addr) (xs : List (Addr × Cl × Int)) (x : V), vs = [.ref l, x] ∧ ChIn K H l xs ∧ ((∃ k, k ∈ xs ∧ 0 < k.2.2 ∧ x = .int k.2.1.n ∧ ∀ H', Same H H' → Q .non H') ∨ (NoPc K H xs x ∧ ∀ a H', Same H H' → Told K H' a cP "number" x → E (.ref cP) (some a) H'))
theorem zgJ : FnScope ["thing", "low", "high"] ["thing", "low", "high"] (zad zbN) := ⟨rfl, rfl, rfl, by decide +kernel, rfl, by decide +kernel, by decide +kernel⟩
theorem zgK (D : Dfn K mg "is_whole" zbN ["thing", "low", "high"] f fd) (T : Txt K mg c_WaitError c_NoPiece c_NoEnd) : Cal P w K mg base "is_whole" 1 ["thing", "low", "high"] (zda K) := by
  refine D.cal (D.F.ok zgJ (fun vs H Q E h => ?_) (fun cdv A outer s H vs Q E hr h => ?_))
  · obtain ⟨i, lo, hi, rfl, _⟩ := h
    rfl
  obtain ⟨x, lo, hi, rfl, h⟩ := h
  refine ⟨_, (zae (zbb (PW.pt (zdB (zbI (zax (zbf (n := "bool")) rfl T.zaN zaG (zaa (pv 0) (zaa (zch (v := .ty "bool") rfl T.zjm zgA rfl) zac)))) (zdA (zbK (zbI (zax (zbf (n := "int")) rfl T.zaN zaG (zaa (pv 0) (zaa (zch (v := .ty "int") rfl T.zh3 ze4 rfl) zac)))))))) (zaf (zau zcz)) zaO)
      (zaf (zau (zjG zit zit (pv 1) (pv 0) (pv 2))))), ?_⟩
  rcases h with ⟨i, rfl, q⟩ | ⟨⟨t, ty, hk | ⟨hk, hi2⟩⟩, q⟩
  · refine ⟨_, rfl, _, _, _, rfl, .old (.int i), T.zbV, _, rfl, iteF ?_⟩
    refine ⟨_, rfl, _, _, _, rfl, .old (.int i), T.zcn, _, rfl, iteF ?_⟩
    refine ⟨_, rfl, _, rfl, _, _, rfl, rfl, _, rfl, ?_⟩
    refine ite2 (fun c => ?_) (fun c => ?_)
    · rw [c, Bool.true_and] at q
      exact ⟨_, rfl, _, _, rfl, rfl, q⟩
    · rw [Bool.eq_false_iff.mpr c, Bool.false_and] at q
      exact q
  · refine ⟨_, rfl, _, _, _, rfl, .old ty, hk, _, rfl, iteT (iteT ?_)⟩
    exact q
  · refine ⟨_, rfl, _, _, _, rfl, .old ty, hk, _, rfl, iteF ?_⟩
    refine ⟨_, rfl, _, _, _, rfl, .old ty, hi2, _, rfl, iteT ?_⟩
    exact q
theorem zeR : FnScope ["chores", "number"] ["chores", "number"] (zad za6) := ⟨rfl, rfl, rfl, by decide +kernel, rfl, by decide +kernel, by decide +kernel⟩
theorem zeS (D : Dfn K mg "is_piece_of" za6 ["chores", "number"] f fd) (T : Txt K mg c_WaitError c_NoPiece c_NoEnd) (zaV : Cal P w K mg base "is_whole" 1 ["thing", "low", "high"] (zda K)) : Cal P w K mg base "is_piece_of" 2 ["chores", "number"] (zjr K) := by
  refine D.cal (D.F.ok zeR (fun vs H Q E h => ?_) (fun cdv A outer s H vs Q E hr h => ?_))
  · obtain ⟨l, xs, x, rfl, _⟩ := h
    rfl
  obtain ⟨l, xs, x, rfl, hI, h⟩ := h
  refine ⟨_, (zaf (zau (zax (zja rfl) rfl T.zne zmd (zaa (zcv (N := ["chore", "number"]) (js := [1]) rfl (CompScope.of rfl rfl rfl rfl rfl (by decide +kernel) rfl rfl rfl rfl) (zaE (pv 0)) (fun _ _ _ _ _ => zb4) (fun _ _ _ _ _ => (zg7 (zc3 zdM (zaq (r := rIxT K) zao (pv 0) zab (fun _ _ => rfl)) zab (zaw _)) (zg6 (zal zaV (hr.mono (by decide)) rfl (zaa (pv 1) (zaa (zaq (r := rIxT K) zao (zaq (r := rIxT K) zao (pv 0) zab (fun _ _ => rfl)) zab (fun _ _ => rfl)) (zaa (zaq (r := rIxT K) zao (zaq (r := rIxT K) zao (pv 0) zab (fun _ _ => rfl)) zab (fun _ _ => rfl)) zac)))))))) zac)))), ?_⟩
  have ml : (xs.map fun q => V.ref q.1).length = xs.length := List.length_map _
  refine ⟨_, rfl, l, rfl, ⟨_, SqL.of hI.chs.at_⟩, ?_⟩
  obtain ⟨w, hw, q⟩ : ∃ w : Addr × Cl × Int → Bool, (∀ (k : Addr × Cl × Int) (Hh : Hp) (Q' : VK), Same H Hh → Q' (.bl (w k)) Hh → (∃ i, x = .int i ∧ Q' (.bl (decide (k.2.1.n ≤ i) && decide (i ≤ k.2.1.n))) Hh) ∨ (zgb K Hh x ∧ Q' (.bl false) Hh)) ∧
      (∀ H', Same H H' → Q (.bl (xs.any fun k => decide (0 < k.2.2) && w k)) H') := by
    rcases h with ⟨k0, hk0, p0, rfl, q⟩ | ⟨no | ⟨i, rfl, no⟩, q⟩
    · refine ⟨fun k => decide (k.2.1.n ≤ k0.2.1.n) && decide (k0.2.1.n ≤ k.2.1.n), fun k Hh Q' _ z => .inl ⟨_, rfl, z⟩, fun H' s => ?_⟩
      have : (xs.any fun k => decide (0 < k.2.2) && (decide (k.2.1.n ≤ k0.2.1.n) && decide (k0.2.1.n ≤ k.2.1.n))) = true := by
        rw [List.any_eq_true]
        refine ⟨k0, hk0, ?_⟩
        rw [decide_eq_true p0, decide_eq_true (Int.le_refl _)]
        rfl
      rw [this]
      exact q H' s
    · refine ⟨fun _ => false, fun k Hh Q' s z => .inr ⟨no.same s, z⟩, fun H' s => ?_⟩
      have : (xs.any fun k => decide (0 < k.2.2) && false) = false := by
        rw [List.any_eq_false]
        intro k _ z
        rw [Bool.and_false] at z
        cases z
      rw [this]
      exact q H' s
    · refine ⟨fun k => decide (k.2.1.n ≤ i) && decide (i ≤ k.2.1.n), fun k Hh Q' _ z => .inl ⟨_, rfl, z⟩, fun H' s => ?_⟩
      have : (xs.any fun k => decide (0 < k.2.2) && (decide (k.2.1.n ≤ i) && decide (i ≤ k.2.1.n))) = false := by
        rw [List.any_eq_false]
        intro k hk z
        rw [Bool.and_eq_true, Bool.and_eq_true, decide_eq_true_iff, decide_eq_true_iff, decide_eq_true_iff] at z
        exact no k hk z.1 (by omega)
      rw [this]
      exact q H' s
  refine zbg (xs := xs.map fun q => V.ref q.1) (fun _ => true) (itm xs fun k => V.bl (decide (0 < k.2.2) && w k)) (SqL.of hI.chs.at_) (fun i x Hh Q' hx sh q' => q' Hh (Same.refl _)) ?_ (zaA (by rw [ml]; have := hI.len; omega)) (fun D H2 s2 nD hD => ?_)
  · intro i y Hh Q' hi _ sh q'
    rw [List.getElem?_map] at hi
    cases e : xs[i]? with
    | none => rw [e] at hi; cases hi
    | some k =>
      rw [e] at hi
      cases hi
      have hk := List.mem_of_getElem? e
      obtain ⟨k1, k2⟩ := (hI.chs.ch k hk).kc
      obtain ⟨_, _, c1, _, _⟩ := id k2.ex
      have z : Q' (V.bl (decide (0 < k.2.2) && w k)) Hh := by
        have z := q' Hh (Same.refl _)
        unfold itm at z
        rw [e] at z
        exact z
      refine ⟨_, rfl, k.1, _, _, _, rfl, rfl, SqT.of (sh _ _ k1), rfl, _, _, rfl, rfl, _, rfl, ?_⟩
      by_cases c : 0 < k.2.2
      · refine iteD c ?_
        rw [decide_eq_true c, Bool.true_and] at z
        exact ⟨_, rfl, _, rfl, k.1, _, _, _, rfl, rfl, SqT.of (sh _ _ k1), rfl, _, _, _, _, rfl, rfl, SqT.of (sh _ _ c1), rfl, _, rfl, k.1, _, _, _, rfl, rfl, SqT.of (sh _ _ k1), rfl, _, _, _, _, rfl, rfl, SqT.of (sh _ _ c1), rfl, x, _, _, rfl, hw k Hh Q' sh z⟩
      · refine ziN c ?_
        rw [decide_eq_false c, Bool.false_and] at z
        exact z
  rw [zcd, ml, zdq] at hD
  have hD : H2 D = some (.lst ((xs.map fun k => decide (0 < k.2.2) && w k).map V.bl)) := by
    rw [hD, List.map_map]
    rfl
  refine ⟨D, _, rfl, SqL.of hD, ?_⟩
  rw [show (xs.map fun k => decide (0 < k.2.2) && w k).any id = xs.any (fun k => decide (0 < k.2.2) && w k) by rw [List.any_map]; rfl]
  exact q H2 s2
theorem zeT : FnScope ["chores", "number"] ["chores", "number"] (zad za7) := ⟨rfl, rfl, rfl, by decide +kernel, rfl, by decide +kernel, by decide +kernel⟩
theorem zeU (D : Dfn K mg "check_piece" za7 ["chores", "number"] f fd) (T : Txt K mg c_WaitError c_NoPiece c_NoEnd) (zba : Cal P w K mg base "is_piece_of" 2 ["chores", "number"] (zjr K)) (X_NoPiece : XCal P w K mg base "NoPiece" c_NoPiece "number") : Cal1 P w K mg base "check_piece" 4 ["chores", "number"] (zkQ K c_NoPiece) := by
  refine D.cal1 (D.F.ok1 zeT (fun vs H Q E h => ?_) (fun cdv A outer s H vs Q E hr h => ?_))
  · obtain ⟨l, xs, x, rfl, _⟩ := h
    rfl
  obtain ⟨l, xs, x, rfl, hI, h⟩ := h
  refine ⟨_, (zaf (zbb (zbK (zbI (zal zba (hr.mono (by decide)) rfl (zaa (pv 0) (zaa (pv 1) zac))))) (zaf (zjV T.x_NoPiece hr.hd (zlm X_NoPiece (hr.mono (by decide)) rfl (zaa (pv 1) zac)))) zaO)), ?_⟩
  rcases h with ⟨k, hk, p, rfl, q⟩ | ⟨no, qE⟩
  · exact ⟨_, rfl, _, rfl, l, xs, _, rfl, hI, .inl ⟨k, hk, p, rfl, fun H1 s1 => ⟨_, rfl, iteF (q H1 s1)⟩⟩⟩
  · exact ⟨_, rfl, _, rfl, l, xs, _, rfl, hI, .inr ⟨no, fun H1 s1 => ⟨_, rfl, iteT ⟨_, rfl, _, rfl, zhT s1 qE⟩⟩⟩⟩
theorem zbn : FnScope ["one", "other", "rest"] ["one", "other"] (zad zaP) := ⟨rfl, rfl, rfl, by decide +kernel, rfl, by decide +kernel, by decide +kernel⟩
theorem zdT (D : Dfn K mg "common_divisor" zaP ["one", "other"] f fd) (T : Txt K mg c_WaitError c_NoPiece c_NoEnd) : Cal P w K mg base "common_divisor" 1 ["one", "other"] zmA := by
  refine D.cal (D.F.ok zbn (fun vs H Q E h => ?_) (fun cdv A outer s H vs Q E hr h => ?_))
  · obtain ⟨x, y, rfl, _⟩ := h
    rfl
  obtain ⟨x, y, rfl, hx, hy, q⟩ := h
  refine ⟨_, (zae (zfg PassesOwn.never (zap zdM (pv 1) zab (zaw _)) (zae (zav (i := 2) zbn.nd rfl (Or.inl rfl) (zat zcU (pv 0) (pv 1)))
      (zae (zav (i := 0) zbn.nd rfl (Or.inl rfl) (pv 1))
      (zaf (zav (i := 1) zbn.nd rfl (Or.inl rfl) (pv 2))))))
      (zaf (zau (pv 0)))), ?_⟩
  refine zfh (fun σ H' => ∃ (a b : Int) (r : Option V), σ = [some (.int a), some (.int b), r] ∧ 0 ≤ a ∧ 0 ≤ b ∧ M1.gd a b = M1.gd x y ∧ H' = H)
    (fun σ _ => match σ with | [_, some (.int b), _] => b.toNat | _ => 0) ⟨x, y, none, rfl, hx, hy, rfl, rfl⟩ ?_ ?_
  · rintro σ H' ⟨a, b, r, rfl, ha, hb, hg, rfl⟩
    refine ⟨_, rfl, _, _, rfl, rfl, _, rfl, ?_⟩
    refine ite2 (fun c => ?_) (fun c => ?_)
    · have c' : 0 < b := of_decide_eq_true c
      have m1 := Int.emod_nonneg a (show b ≠ 0 by omega)
      have m2 := Int.emod_lt_of_pos a c'
      refine ⟨_, rfl, _, rfl, _, _, rfl, rfl, c', _, rfl, _, rfl, ?_⟩
      refine ⟨⟨b, a % b, _, rfl, hb, m1, M1.gd_step.trans hg, rfl⟩, ?_⟩
      show (a % b).toNat < b.toNat
      omega
    · have c' : ¬ 0 < b := of_decide_eq_false (Bool.eq_false_iff.mpr c)
      have e : b = 0 := by omega
      subst e
      rw [M1.gd_zero ha] at hg
      refine ⟨_, rfl, ?_⟩
      rw [hg]
      exact q
  · rintro σ H' Q1 Q2 hq ⟨v, e, i, j, e1, e2, k, ek, q1⟩
    exact ⟨v, e, i, j, e1, e2, k, ek, hq _ _ q1⟩
theorem zbc : FnScope ["claims", "common", "claim", "bottom"] ["claims"] (zad zaS) := ⟨rfl, rfl, rfl, by decide +kernel, rfl, by decide +kernel, by decide +kernel⟩
theorem zec (D : Dfn K mg "common_bottom" zaS ["claims"] f fd) (T : Txt K mg c_WaitError c_NoPiece c_NoEnd) (zb8 : Cal P w K mg base "common_divisor" 1 ["one", "other"] zmA) : Cal P w K mg base "common_bottom" 2 ["claims"] (zhw K) := by
  refine D.cal (D.F.ok zbc (fun vs H Q E h => ?_) (fun cdv A outer s H vs Q E hr h => ?_))
  · obtain ⟨l, ps, rfl, _⟩ := h
    rfl
  obtain ⟨l, ps, rfl, hC, G, q⟩ := h
  refine ⟨_, (zae (zav (i := 1) zbc.nd rfl (Or.inl rfl) zab)
      (zae (zc2 PassesOwn.never rfl (zaE (pv 0)) (zaD (i := 2) zbc.nd rfl (Or.inl rfl)) (zaf (zc2 PassesOwn.never rfl (zlQ (zaB (zaa (zaq zao (zaq zao (pv 2) zab (fun _ _ => rfl)) zab (fun _ _ => rfl)) (zaa (zaq zao (zaq zao (pv 2) zab (fun _ _ => rfl)) zab (fun _ _ => rfl)) zac)))) (zaD (i := 3) zbc.nd rfl (Or.inl rfl)) (zaf (zav (i := 1) zbc.nd rfl (Or.inl rfl) (zat zdE (zat zb3 (pv 1) (pv 3)) (zal zb8 (hr.mono (by decide)) rfl (zaa (pv 1) (zaa (pv 3) zac)))))))))
      (zaf (zau (pv 1))))), ?_⟩
  refine ⟨_, rfl, l, rfl, ⟨_, SqL.of hC.at_⟩, ?_⟩
  refine zdf (K := K) (a := l) (xs := ps.map fun q => V.ref q.1) (fun i σ H1 => ∃ (M : Int) (v2 v3 : Option V), σ = [some (.ref l), some (.int M), v2, v3] ∧ Same H H1 ∧ 0 < M ∧ M ∣ 27720 ∧ ∀ j y, j < i → ps[j]? = some y → y.2.wb ∣ M ∧ y.2.sb ∣ M)
    ⟨1, _, _, rfl, Same.refl _, by decide, by decide, fun j y z => by omega⟩ (fun i σ H1 _ ⟨_, _, _, _, s1, _⟩ => SqL.of (s1 _ _ hC.at_)) ?_ ?_
  · rintro i x σ H1 hi ⟨M, v2, v3, rfl, s1, M0, Md, hM⟩
    rw [List.getElem?_map] at hi
    cases e : ps[i]? with
    | none => rw [e] at hi; cases hi
    | some y =>
      rw [e] at hi
      cases hi
      have hy := List.mem_of_getElem? e
      have ok := G.ok y.2 (List.mem_map.mpr ⟨y, hy, rfl⟩)
      obtain ⟨pw, ps', z1, z2, z3⟩ := ((hC.cl y hy).same s1).ex
      refine ⟨_, rfl, y.1, _, _, _, rfl, rfl, SqT.of z1, rfl, pw, _, _, _, rfl, rfl, SqT.of z2, rfl, _, rfl, y.1, _, _, _, rfl, rfl, SqT.of z1, rfl, ps', _, _, _, rfl, rfl, SqT.of z3, rfl, sz 2 (by decide), fun lt H2 s2 n2 h2 => ?_⟩
      refine ⟨lt, rfl, ⟨_, SqT.of h2⟩, ?_⟩
      have w2 := ok.w2
      have w3 := ok.w3
      have b2 := ok.s2
      have b3 := ok.s3
      refine zk2 (K := K) (a := lt) (xs := [V.int y.2.wb, V.int y.2.sb]) (fun k σ H3 => ∃ (N : Int) (v3 : Option V), σ = [some (.ref l), some (.int N), some (.ref y.1), v3] ∧ Same H2 H3 ∧ 0 < N ∧ N ∣ 27720 ∧ M ∣ N ∧ (0 < k → y.2.wb ∣ N) ∧ (1 < k → y.2.sb ∣ N))
        ⟨M, _, rfl, Same.refl _, M0, Md, Int.dvd_refl _, fun z => by omega, fun z => by omega⟩ (fun k σ H3 _ ⟨_, _, _, s3, _⟩ => SqT.of (s3 _ _ h2)) ?_ ?_
      · rintro k x σ H3 hk ⟨N, v3, rfl, s3, N0, N1, N2, N3, N4⟩
        have hx : ∃ b : Int, x = .int b ∧ 0 < b ∧ b ≤ 12 ∧ ((k = 0 ∧ b = y.2.wb) ∨ (k = 1 ∧ b = y.2.sb)) := by
          rcases (by have := (List.getElem?_eq_some_iff.mp hk).1; simp at this; omega : k = 0 ∨ k = 1) with rfl | rfl
          · simp at hk
            exact ⟨_, hk.symm, w2, w3, .inl ⟨rfl, rfl⟩⟩
          · simp at hk
            exact ⟨_, hk.symm, b2, b3, .inr ⟨rfl, rfl⟩⟩
        obtain ⟨b, rfl, b0, b1, hb⟩ := hx
        have Nle : N ≤ 27720 := Int.le_of_dvd (by decide) N1
        obtain ⟨L0, L1, L2, L3⟩ := zj6 N0 b0
        have g0 := M1.gd_pos (x := N) b0
        have g1 := M1.gd_le (x := N) b0
        refine ⟨_, rfl, _, rfl, _, _, rfl, rfl, .inr ⟨by omega, by omega⟩, _, rfl, _, rfl, N, b, rfl, by omega, by omega, _, _, rfl, rfl, ⟨g0, by omega⟩, ?_⟩
        refine ⟨_, _, rfl, s3, L0, L3 _ N1 (zeA b0 b1), Int.dvd_trans N2 L1, fun _ => ?_, fun z => ?_⟩
        · rcases hb with ⟨rfl, rfl⟩ | ⟨rfl, rfl⟩
          · exact L2
          · exact Int.dvd_trans (N3 (by omega)) L1
        · rcases hb with ⟨rfl, rfl⟩ | ⟨rfl, rfl⟩
          · omega
          · exact L2
      · rintro σ H3 ⟨N, v3, rfl, s3, N0, N1, N2, N3, N4⟩
        refine ⟨N, _, _, rfl, s1.trans (s2.trans s3), N0, N1, fun j z hj hz => ?_⟩
        by_cases ji : j = i
        · subst ji
          rw [e] at hz
          cases hz
          exact ⟨N3 (by simp), N4 (by simp)⟩
        · obtain ⟨d1, d2⟩ := hM j z (by omega) hz
          exact ⟨Int.dvd_trans d1 N2, Int.dvd_trans d2 N2⟩
  · rintro σ H1 ⟨M, v2, v3, rfl, s1, M0, Md, hM⟩
    refine ⟨_, rfl, q M H1 s1 M0 (Int.le_of_dvd (by decide) Md) fun c hc => ?_⟩
    obtain ⟨y, hy, rfl⟩ := List.mem_map.mp hc
    obtain ⟨j, hj, ej⟩ := List.getElem_of_mem hy
    exact hM j y (by rw [List.length_map]; exact hj) (by rw [List.getElem?_eq_getElem hj, ej])
theorem zdb : FnScope ["claim", "turn", "common", "weight", "speed"] ["claim", "turn", "common"] (zad zbx) := ⟨rfl, rfl, rfl, by decide +kernel, rfl, by decide +kernel, by decide +kernel⟩
theorem zgc (D : Dfn K mg "place_key" zbx ["claim", "turn", "common"] f fd) (T : Txt K mg c_WaitError c_NoPiece c_NoEnd) : Cal P w K mg base "place_key" 1 ["claim", "turn", "common"] (zmB K) := by
  refine D.cal (D.F.ok zdb (fun vs H Q E h => ?_) (fun cdv A outer s H vs Q E hr h => ?_))
  · obtain ⟨p, c, t, M, rfl, _⟩ := h
    rfl
  obtain ⟨p, c, t, M, rfl, hc, ok, M0, M1, q⟩ := h
  refine ⟨_, (zae (zav (i := 3) zdb.nd rfl (Or.inl rfl) (zat zb3 (zaq zao (zaq zao (pv 0) zab (fun _ _ => rfl)) zab (fun _ _ => rfl)) (zat zdE (pv 2) (zaq zao (zaq zao (pv 0) zab (fun _ _ => rfl)) zab (fun _ _ => rfl)))))
      (zae (zav (i := 4) zdb.nd rfl (Or.inl rfl) (zat zb3 (zaq zao (zaq zao (pv 0) zab (fun _ _ => rfl)) zab (fun _ _ => rfl)) (zat zdE (pv 2) (zaq zao (zaq zao (pv 0) zab (fun _ _ => rfl)) zab (fun _ _ => rfl)))))
      (zaf (zau (zaB (zaa (zeP zdo (zat za2 (pv 3) (zat zb3 (zat ze1 (pv 1) (zaq zao (pv 0) zab (fun _ _ => rfl))) (pv 4)))) (zaa (zaq zao (pv 0) zab (fun _ _ => rfl)) (zaa (zaq zao (pv 0) zab (fun _ _ => rfl)) zac)))))))), ?_⟩
  obtain ⟨pw, ps, e1, e2, e3⟩ := id hc.ex
  have hp : SqT K H p _ := SqT.of e1
  have hw : SqT K H pw _ := SqT.of e2
  have hs : SqT K H ps _ := SqT.of e3
  have w2 := ok.w2
  have w3 := ok.w3
  have b2 := ok.s2
  have b3 := ok.s3
  have d1 : M / c.wb ≤ M := Int.ediv_le_self _ (by omega)
  have d2 : 0 ≤ M / c.wb := Int.ediv_nonneg (by omega) (by omega)
  have d3 : M / c.sb ≤ M := Int.ediv_le_self _ (by omega)
  have d4 : 0 ≤ M / c.sb := Int.ediv_nonneg (by omega) (by omega)
  have d5 : c.st * (M / c.sb) ≤ 1000000 * 27720 := Int.mul_le_mul ok.s1 (by omega) d4 (by decide)
  have d6 : 0 ≤ c.st * (M / c.sb) := Int.mul_nonneg ok.s0 d4
  refine ⟨_, rfl, p, _, _, _, rfl, rfl, hp, rfl, pw, _, _, _, rfl, rfl, hw, rfl, _, rfl, _, rfl, p, _, _, _, rfl, rfl, hp, rfl, pw, _, _, _, rfl, rfl, hw, rfl, _, _, rfl, rfl, ⟨w2, by omega⟩, _, _, rfl, rfl, .inr ⟨by omega, by omega⟩, ?_⟩
  refine ⟨_, rfl, p, _, _, _, rfl, rfl, hp, rfl, ps, _, _, _, rfl, rfl, hs, rfl, _, rfl, _, rfl, p, _, _, _, rfl, rfl, hp, rfl, ps, _, _, _, rfl, rfl, hs, rfl, _, _, rfl, rfl, ⟨b2, by omega⟩, _, _, rfl, rfl, .inr ⟨by omega, by omega⟩, ?_⟩
  refine ⟨_, rfl, _, rfl, _, rfl, p, _, _, _, rfl, rfl, hp, rfl, _, _, rfl, rfl, _, rfl, _, _, rfl, rfl, .inr ⟨by omega, by omega⟩, _, _, rfl, rfl, _, rfl, ?_⟩
  refine ⟨_, rfl, p, _, _, _, rfl, rfl, hp, rfl, _, rfl, p, _, _, _, rfl, rfl, hp, rfl, sz 3 (by decide), fun r H1 s1 n1 h1 => ?_⟩
  exact q r H1 s1 h1
theorem zct : FnScope ["claims", "turn", "common"] ["claims", "turn"] (zad zak) := ⟨rfl, rfl, rfl, by decide +kernel, rfl, by decide +kernel, by decide +kernel⟩
theorem zdJ {cv : Value} (D : DfnC K mg "claims_in_order" zak ["claims", "turn"] f fd cv) (SI : Site K mg base cv tT) (T : Txt K mg c_WaitError c_NoPiece c_NoEnd) (zcq : Cal P w K mg base "common_bottom" 2 ["claims"] (zhw K)) (zdt : Cal P w K mg base "place_key" 1 ["claim", "turn", "common"] (zmB K)) : Cal P w K mg base "claims_in_order" 6 ["claims", "turn"] (zjo K tT) := by
  refine D.cal (D.F.ok zct (fun vs H Q E h => ?_) (fun A outer s H vs Q E hr h => ?_))
  · obtain ⟨l, ps, t, rfl, _⟩ := h
    rfl
  obtain ⟨l, ps, t, rfl, hC, G, pl, hT, q⟩ := h
  refine ⟨_, (zae (zav (i := 2) zct.nd rfl (Or.inr rfl) (zal zcq (hr.mono (by decide)) rfl (zaa (pv 0) zac)))
      (zaf (zau (zhV (N := ["claim", "turn", "common"]) (js := [1, 2]) (CompScope.of rfl rfl rfl rfl rfl (by decide +kernel) rfl rfl rfl rfl) SI rfl hr.depth rfl rfl T.zhu (zaa (pv 0) zac) (fun _ _ _ _ _ => (zal zdt (((hr.mono (j := 1 + 3) (by decide)).in1).in1.deeper _) rfl (zaa (pv 0) (zaa (pv 1) (zaa (pv 2) zac))))))))), ?_⟩
  refine ⟨_, rfl, l, ps, rfl, hC, G, fun M H1 s1 M0 M1 hM => ?_⟩
  have ml : (ps.map fun q => V.ref q.1).length = (ps.map (·.2)).length := by rw [List.length_map, List.length_map]
  refine ⟨_, rfl, l, _, zcX (ps.map (·.2)) t M, 3, rfl, SqL.of (hC.same s1).at_, by rw [ml, List.length_map]; omega, zkF _ t M, by decide, by rw [ml]; exact zkG G M0 hM, s1 _ _ hT, fun H2 s2 => ⟨fun i v hv H3 s3 => ?_, fun D H' p s' n' h' hp hs => ?_⟩⟩
  · rw [List.getElem?_map] at hv
    cases e : ps[i]? with
    | none => rw [e] at hv; cases hv
    | some y =>
      rw [e] at hv
      cases hv
      have hy := List.mem_of_getElem? e
      refine ⟨_, rfl, _, rfl, _, rfl, y.1, y.2, t, M, rfl, (hC.cl y hy).same (s1.trans (s2.trans s3)), G.ok y.2 (List.mem_map.mpr ⟨y, hy, rfl⟩), M0, M1, fun r H4 s4 h4 => ⟨s4, r, rfl, ?_⟩⟩
      rw [h4]
      unfold zcX
      rw [List.getElem?_map, e]
      rfl
  · rw [ml] at hp
    have s02 := s1.trans s2
    have d : Addr × Cl := (0, ⟨0, 0, 1, 0, 1, 0⟩)
    have lt : ∀ i ∈ p, i < ps.length := fun i hi => by
      have := List.mem_range.mp (hp.mem_iff.mp hi)
      simpa using this
    have hp2 : p.Perm (List.range ps.length) := by simpa using hp
    refine q D H' (p.map fun i => ps.getD i d) (s02.trans s') (Same.free s02 n') ?_ (zf2 d ps hp2) (zho G M0 hM hp d hs)
    rw [h', List.map_map]
    congr 2
    refine List.map_congr_left fun i hi => ?_
    have := lt i hi
    show (ps.map fun q => V.ref q.1).getD i .non = V.ref (ps.getD i d).1
    rw [List.getD_eq_getElem?_getD, List.getD_eq_getElem?_getD, List.getElem?_map, List.getElem?_eq_getElem this]
    rfl
theorem zdu : FnScope ["claims", "turn"] ["claims", "turn"] (zad zaH) := ⟨rfl, rfl, rfl, by decide +kernel, rfl, by decide +kernel, by decide +kernel⟩
theorem zdv (D : Dfn K mg "numbers_in_order" zaH ["claims", "turn"] f fd) (T : Txt K mg c_WaitError c_NoPiece c_NoEnd) (zbX : Cal P w K mg base "claims_in_order" 6 ["claims", "turn"] (zjo K tT)) : Cal P w K mg base "numbers_in_order" 7 ["claims", "turn"] (zf9 K tT) := by
  refine D.cal (D.F.ok zdu (fun vs H Q E h => ?_) (fun cdv A outer s H vs Q E hr h => ?_))
  · obtain ⟨l, ps, t, rfl, _⟩ := h
    rfl
  obtain ⟨l, ps, t, rfl, hC, G, pl, hT, q⟩ := h
  refine ⟨_, (zaf (zau (zcv (N := ["claim"]) (js := []) rfl (CompScope.of rfl rfl rfl rfl rfl (by decide +kernel) rfl rfl rfl rfl) (zaE (zal zbX (hr.mono (by decide)) rfl (zaa (pv 0) (zaa (pv 1) zac)))) (fun _ _ _ _ _ => zb4) (fun _ _ _ _ _ => (zaq (r := rIxT K) zao (pv 0) zab (fun _ _ => rfl)))))), ?_⟩
  refine ⟨_, rfl, _, rfl, l, ps, t, rfl, hC, G, pl, hT, fun m H1 qs s1 n1 h1 hp hs => ⟨m, rfl, ⟨_, SqL.of h1⟩, ?_⟩⟩
  have mo : (qs.map fun q => V.ref q.1).length = qs.length := List.length_map _
  have lq := hp.length_eq
  refine zbg (xs := qs.map fun q => V.ref q.1) (fun _ => true) (itm qs fun q => V.int q.2.n) (SqL.of h1) (fun i x Hh Q' hx sh q' => q' Hh (Same.refl _)) ?_ (zaA (by rw [mo]; omega)) (fun D H2 s2 nD hD => ?_)
  · intro i x Hh Q' hx _ sh q'
    rw [List.getElem?_map] at hx
    cases e : qs[i]? with
    | none => rw [e] at hx; cases hx
    | some y =>
      rw [e] at hx
      cases hx
      obtain ⟨pw, pz, z1, _, _⟩ := (((hC.cl y (hp.mem_iff.mp (List.mem_of_getElem? e))).same s1).same sh).ex
      refine ⟨_, rfl, y.1, _, _, _, rfl, rfl, SqT.of z1, rfl, ?_⟩
      have z := q' Hh (Same.refl _)
      unfold itm at z
      rw [e] at z
      exact z
  rw [zcd, mo, zdq] at hD
  refine q D H2 (s1.trans s2) (Same.free s1 nD) ?_
  rw [hD, ← zhk G (hp.map _) hs, List.map_map, List.map_map]
  rfl
theorem zcH : FnScope ["chores", "hands", "turn", "there"] ["chores", "hands", "turn"] (zad zaQ) := ⟨rfl, rfl, rfl, by decide +kernel, rfl, by decide +kernel, by decide +kernel⟩
theorem zdU (D : Dfn K mg "numbers_worked" zaQ ["chores", "hands", "turn"] f fd) (T : Txt K mg c_WaitError c_NoPiece c_NoEnd) (zbJ : Cal P w K mg base "numbers_in_order" 7 ["claims", "turn"] (zf9 K tT)) : Cal P w K mg base "numbers_worked" 8 ["chores", "hands", "turn"] (zhx K tT) := by
  refine D.cal (D.F.ok zcH (fun vs H Q E h => ?_) (fun cdv A outer s H vs Q E hr h => ?_))
  · obtain ⟨l, xs, h, t, rfl, _⟩ := h
    rfl
  obtain ⟨l, xs, h, t, rfl, hx, h0, hT, q⟩ := h
  refine ⟨_, (zae (zc6 (i := 3) (N := ["chore", "turn"]) (js := [2]) zcH.nd rfl rfl rfl (CompScope.of rfl rfl rfl rfl rfl (by decide +kernel) rfl rfl rfl rfl) (zaE (pv 0)) (fun _ _ _ _ _ => (zdF (PW.pt (zfD (zap zdM (zaq (r := rIxT K) zao (pv 0) zab (fun _ _ => rfl)) zab (zaw _)) (zen (zap zit (zaq (r := rIxT K) zao (zaq (r := rIxT K) zao (pv 0) zab (fun _ _ => rfl)) zab (fun _ _ => rfl)) (pv 1) (zaw _))))))) (fun _ _ _ _ _ => (zaq (r := rIxT K) zao (pv 0) zab (fun _ _ => rfl))))
      (zaf (zau (zbv zb2 (zal zbJ (hr.mono (by decide)) rfl (zaa (pv 3) (zaa (pv 2) zac))) zb7 (zbM (pv 1)))))), ?_⟩
  refine ⟨_, rfl, l, rfl, ⟨_, SqL.of hx.chs.at_⟩, ?_⟩
  have ml : (xs.map fun q => V.ref q.1).length = xs.length := List.length_map _
  refine zbg (xs := xs.map fun q => V.ref q.1) (tak xs (zds t)) (itm xs fun k => V.ref (kcOf H k.1)) (SqL.of hx.chs.at_) ?_ ?_ (zaA (by rw [ml]; exact Nat.le_trans hx.len (by decide))) (fun D H2 s2 nD hD => ?_)
  · intro i x Hh Q' hi sh q'
    rw [List.getElem?_map] at hi
    cases e : xs[i]? with
    | none => rw [e] at hi; cases hi
    | some k =>
      rw [e] at hi
      cases hi
      have z := q' Hh (Same.refl _)
      unfold tak zds at z
      rw [e] at z
      have z : Q' (decide (0 < k.2.2) && decide (k.2.1.came ≤ t)) Hh := z
      obtain ⟨k1, k2⟩ := (hx.chs.ch k (List.mem_of_getElem? e)).kc
      obtain ⟨_, _, c1, _, _⟩ := id k2.ex
      refine ⟨_, rfl, k.1, _, _, _, rfl, rfl, SqT.of (sh _ _ k1), rfl, _, _, rfl, rfl, _, rfl, ?_⟩
      by_cases c1' : 0 < k.2.2
      · refine iteD c1' ?_
        rw [decide_eq_true c1', Bool.true_and] at z
        exact ⟨_, rfl, k.1, _, _, _, rfl, rfl, SqT.of (sh _ _ k1), rfl, _, _, _, _, rfl, rfl, SqT.of (sh _ _ c1), rfl, _, rfl, _, _, rfl, rfl, _, rfl, z⟩
      · refine ziN c1' ?_
        rw [decide_eq_false c1', Bool.false_and] at z
        exact z
  · intro i x Hh Q' hi _ sh q'
    rw [List.getElem?_map] at hi
    cases e : xs[i]? with
    | none => rw [e] at hi; cases hi
    | some k =>
      rw [e] at hi
      cases hi
      have z := q' Hh (Same.refl _)
      unfold itm at z
      rw [e] at z
      obtain ⟨k1, k2⟩ := (hx.chs.ch k (List.mem_of_getElem? e)).kc
      exact ⟨_, rfl, k.1, _, _, _, rfl, rfl, SqT.of (sh _ _ k1), rfl, z⟩
  rw [ml, zcj, ← zeE] at hD
  have hC : IsCs K H2 D (zcD H t xs) := ⟨hD, fun c hc => (zf5 hx.chs t hc).same s2⟩
  have G : Good ((zcD H t xs).map (·.2)) := by rw [zdH]; exact hx.good t
  refine ⟨_, rfl, _, rfl, D, zcD H t xs, t, rfl, hC, G, Nat.le_trans (zfa _ _ _) hx.len, s2 _ _ hT, fun m H3 s3 n3 h3 => ?_⟩
  rw [zdH] at h3
  refine ⟨_, rfl, _, rfl, m, _, rfl, SqL.of h3, fun p H4 s4 n4 h4 => ?_⟩
  refine q p H4 (s2.trans (s3.trans s4)) (Same.free (s2.trans s3) n4) ?_
  rw [h4]
  unfold zbH cutV
  rw [HT.sIx_none, show h = ((h.toNat : Nat) : Int) by omega, HT.sIx_nat, List.length_map, List.drop_zero, Nat.sub_zero, List.map_take, Int.toNat_natCast]
  congr 2
  rw [Nat.min_def]
  split
  · rfl
  · rw [List.take_of_length_le (by rw [List.length_map]; omega), List.take_of_length_le (by rw [List.length_map]; omega)]
theorem zcW : FnScope ["chores", "numbers", "lessened"] ["chores", "numbers"] (zad zaT) := ⟨rfl, rfl, rfl, by decide +kernel, rfl, by decide +kernel, by decide +kernel⟩
theorem zed (D : Dfn K mg "chores_behind" zaT ["chores", "numbers"] f fd) (T : Txt K mg c_WaitError c_NoPiece c_NoEnd) : Cal P w K mg base "chores_behind" 1 ["chores", "numbers"] (zel K) := by
  refine D.cal (D.F.ok zcW (fun vs H Q E h => ?_) (fun cdv A outer s H vs Q E hr h => ?_))
  · obtain ⟨l, m, xs, ws, rfl, _⟩ := h
    rfl
  obtain ⟨l, m, xs, ws, rfl, hx, hm, q⟩ := h
  refine ⟨_, (zae (zc6 (i := 2) (N := ["chore", "numbers"]) (js := [1]) zcW.nd rfl rfl rfl (CompScope.of rfl rfl rfl rfl rfl (by decide +kernel) rfl rfl rfl rfl) (zaE (pv 0)) (fun _ _ _ _ _ => zb4) (fun _ _ _ _ _ => (zaB (zaa (zaq (r := rIxT K) zao (pv 0) zab (fun _ _ => rfl)) (zaa (zjD (zap (zkI (K := K) rfl) (zaq (r := rIxT K) zao (zaq (r := rIxT K) zao (pv 0) zab (fun _ _ => rfl)) zab (fun _ _ => rfl)) (pv 1) rfl) (zat ze1 (zaq (r := rIxT K) zao (pv 0) zab (fun _ _ => rfl)) zab) (zaq (r := rIxT K) zao (pv 0) zab (fun _ _ => rfl))) zac)))))
      (zaf (zau (zcv (N := ["chore"]) (js := []) rfl (CompScope.of rfl rfl rfl rfl rfl (by decide +kernel) rfl rfl rfl rfl) (zaE (pv 2)) (fun _ _ _ _ _ => (zdF (zap zdM (zaq (r := rIxT K) zao (pv 0) zab (fun _ _ => rfl)) zab (zaw _)))) (fun _ _ _ _ _ => (pv 0)))))), ?_⟩
  refine ⟨_, rfl, l, rfl, ⟨_, SqL.of hx.chs.at_⟩, ?_⟩
  have ml : (xs.map fun q => V.ref q.1).length = xs.length := List.length_map _
  have fl : ∀ ns : List Int, (ns.map V.int).all zaM = true := fun ns => List.all_eq_true.mpr fun y hy => by obtain ⟨i, _, rfl⟩ := List.mem_map.mp hy; rfl
  refine zf3 (xs := xs.map fun q => V.ref q.1) (tak xs fun _ => true) (itl xs fun k => [V.ref (kcOf H k.1), V.int (zbq ws k.2)]) (SqL.of hx.chs.at_) ?_ ?_ (zaA (by rw [ml]; exact Nat.le_trans hx.len (by decide))) (fun D H2 bs s2 nD hD eb hb => ?_)
  · intro i x Hh Q' hi sh q'
    have z := q' Hh (Same.refl _)
    unfold tak at z
    rw [List.getElem?_map] at hi
    cases e : xs[i]? with
    | none => rw [e] at hi; cases hi
    | some k =>
      rw [e] at z
      exact z
  · intro i x Hh Q' hi _ sh q'
    rw [List.getElem?_map] at hi
    cases e : xs[i]? with
    | none => rw [e] at hi; cases hi
    | some k =>
      rw [e] at hi
      cases hi
      obtain ⟨k1, k2⟩ := (hx.chs.ch k (List.mem_of_getElem? e)).kc
      obtain ⟨_, _, c1, _, _⟩ := id k2.ex
      have z : ∀ b Hh', Same Hh Hh' → Hh' b = some (.tup [V.ref (kcOf H k.1), V.int (zbq ws k.2)]) → Q' (.ref b) Hh' := fun b H' s' h' => q' b H' s' (by rw [h']; unfold itl; rw [e])
      refine ⟨_, rfl, k.1, _, _, _, rfl, rfl, SqT.of (sh _ _ k1), rfl, ?_⟩
      refine ⟨_, rfl, k.1, _, _, _, rfl, rfl, SqT.of (sh _ _ k1), rfl, _, _, _, _, rfl, rfl, SqT.of (sh _ _ c1), rfl, _, rfl, m, _, rfl, .inl (SqL.of (sh _ _ hm)), rfl, fl _, _, rfl, ?_⟩
      have ei : (if false = true then !inV (.int k.2.1.n) (ws.map V.int) else inV (.int k.2.1.n) (ws.map V.int)) = decide (k.2.1.n ∈ ws) := by
        rw [if_neg Bool.false_ne_true]
        exact zeB
      rw [ei]
      by_cases c : k.2.1.n ∈ ws
      · refine iteD c ?_
        refine ⟨_, rfl, k.1, _, _, _, rfl, rfl, SqT.of (sh _ _ k1), rfl, _, _, rfl, rfl, sz 2 (by decide), fun b H3 s3 n3 h3 => z b H3 s3 ?_⟩
        rw [h3]
        unfold zbq
        rw [if_pos c]
      · refine ziN c ?_
        refine ⟨_, rfl, k.1, _, _, _, rfl, rfl, SqT.of (sh _ _ k1), rfl, sz 2 (by decide), fun b H3 s3 n3 h3 => z b H3 s3 ?_⟩
        rw [h3]
        unfold zbq
        rw [if_neg c]
  rw [ml, zeC, zfq] at eb
  have lb : bs.length = xs.length := by
    have := congrArg List.length eb
    rw [List.length_map, List.length_map] at this
    exact this
  have mb : (bs.map fun b => V.ref b.1).length = bs.length := List.length_map _
  refine ⟨_, rfl, D, rfl, ⟨_, SqL.of hD⟩, ?_⟩
  have parts : ∀ b, b ∈ bs → ∃ (a : Addr) (i : Int), b.2 = [.ref a, .int i] := fun b hb' => by
    have : b.2 ∈ bs.map (·.2) := List.mem_map.mpr ⟨b, hb', rfl⟩
    rw [eb] at this
    obtain ⟨k, _, e⟩ := List.mem_map.mp this
    exact ⟨_, _, e.symm⟩
  refine zbg (xs := bs.map fun b => V.ref b.1) (tak bs fun b => plV b.2) (itm bs fun b => V.ref b.1) (SqL.of hD) ?_ ?_ (zaA (by rw [mb, lb]; exact Nat.le_trans hx.len (by decide))) (fun D3 H3 s3 nD3 hD3 => ?_)
  · intro i x Hh Q' hi sh q'
    rw [List.getElem?_map] at hi
    cases e : bs[i]? with
    | none => rw [e] at hi; cases hi
    | some b =>
      rw [e] at hi
      cases hi
      have hbm := List.mem_of_getElem? e
      have z := q' Hh (Same.refl _)
      unfold tak at z
      rw [e] at z
      obtain ⟨a, n, e2⟩ := parts b hbm
      have z : Q' (plV b.2) Hh := z
      rw [e2] at z
      have g := sh _ _ (hb b hbm)
      rw [e2] at g
      exact ⟨_, rfl, b.1, _, _, _, rfl, rfl, SqT.of g, rfl, _, _, rfl, rfl, _, rfl, z⟩
  · intro i x Hh Q' hi _ sh q'
    rw [List.getElem?_map] at hi
    cases e : bs[i]? with
    | none => rw [e] at hi; cases hi
    | some b =>
      rw [e] at hi
      cases hi
      have z := q' Hh (Same.refl _)
      unfold itm at z
      rw [e] at z
      exact ⟨_, rfl, z⟩
  rw [mb, zcj] at hD3
  exact q D3 H3 _ (s2.trans s3) (Same.free s2 nD3) ⟨hD3, fun b hb' => s3 _ _ (hb b (List.mem_filter.mp hb').1), zml eb⟩
theorem zd8 : FnScope ["chores", "hands", "turn", "numbers"] ["chores", "hands", "turn"] (zad zby) := ⟨rfl, rfl, rfl, by decide +kernel, rfl, by decide +kernel, by decide +kernel⟩
theorem zgd (D : Dfn K mg "turn_done" zby ["chores", "hands", "turn"] f fd) (T : Txt K mg c_WaitError c_NoPiece c_NoEnd) (zb9 : Cal P w K mg base "numbers_worked" 8 ["chores", "hands", "turn"] (zhx K tT)) (zaI : Cal P w K mg base "chores_behind" 1 ["chores", "numbers"] (zel K)) : Cal P w K mg base "turn_done" 9 ["chores", "hands", "turn"] (zjp K tT) := by
  refine D.cal (D.F.ok zd8 (fun vs H Q E h => ?_) (fun cdv A outer s H vs Q E hr h => ?_))
  · obtain ⟨l, xs, h, t, rfl, _⟩ := h
    rfl
  obtain ⟨l, xs, h, t, rfl, hx, h0, hT, q⟩ := h
  refine ⟨_, (zae (zav (i := 3) zd8.nd rfl (Or.inl rfl) (zal zb9 (hr.mono (by decide)) rfl (zaa (pv 0) (zaa (pv 1) (zaa (pv 2) zac)))))
      (zaf (zau (zaB (zaa (pv 3) (zaa (zal zaI (hr.mono (by decide)) rfl (zaa (pv 0) (zaa (pv 3) zac))) zac)))))), ?_⟩
  refine ⟨_, rfl, _, rfl, _, rfl, l, xs, h, t, rfl, hx, h0, hT, fun m H1 s1 n1 h1 => ?_⟩
  refine ⟨_, rfl, _, rfl, _, rfl, l, m, xs, _, rfl, hx.same s1, h1, fun D H2 bs s2 nD B => ?_⟩
  rw [zf4 hx.chs s1] at B
  have mD : m ≠ D := fun z => by rw [← z, h1] at nD; cases nD
  exact ⟨sz 2 (by decide), fun p H3 s3 n3 h3 => q p m D H3 bs (s1.trans (s2.trans s3)) h3 n1 (Same.free s1 nD) mD (s3 _ _ (s2 _ _ h1)) (B.same s3)⟩
theorem zeI : FnScope ["chores", "real"] ["chores", "real"] (zad za0) := ⟨rfl, rfl, rfl, by decide +kernel, rfl, by decide +kernel, by decide +kernel⟩
theorem zeJ (D : Dfn K mg "chores_taken" za0 ["chores", "real"] f fd) (T : Txt K mg c_WaitError c_NoPiece c_NoEnd) : Cal P w K mg base "chores_taken" 1 ["chores", "real"] zjq := by
  refine D.cal (D.F.ok zeI (fun vs H Q E h => ?_) (fun cdv A outer s H vs Q E hr h => ?_))
  · obtain ⟨l, rfl, _⟩ := h
    rfl
  obtain ⟨l, rfl, q⟩ := h
  refine ⟨_, (zae (zbb (zap ziu (pv 1) zcT (zaw _)) (zaf (zau (pv 0))) zaO)
      (zaf zjE)), ?_⟩
  exact ⟨_, rfl, rfl, _, rfl, iteT ⟨_, rfl, q⟩⟩
theorem zcr : FnScope ["chores", "hands", "begin", "real", "left", "turn", "rows", "step"] ["chores", "hands", "begin", "real"] (zad zcK) := ⟨rfl, rfl, rfl, by decide +kernel, rfl, by decide +kernel, by decide +kernel⟩
theorem zjs (D : DfnD K mg "run_of" zcK ["chores", "hands", "begin", "real"] f fd) (T : Txt K mg c_WaitError c_NoPiece c_NoEnd) (zaI : Cal P w K mg base "chores_behind" 1 ["chores", "numbers"] (zel K)) (zbY : Cal P w K mg base "turn_done" 9 ["chores", "hands", "turn"] (zjp K tT)) (zcx : Cal P w K mg base "chores_taken" 1 ["chores", "real"] zjq) : CalD P w K mg base "run_of" 10 ["chores", "hands", "begin", "real"] (zmC K tT) := by
  refine D.cal (D.F.ok zcr (fun vs H Q E h => ?_) (fun cdv A outer s H vs Q E hr h => ?_))
  · obtain ⟨l, xs, h, b, rfl, _⟩ := h
    rfl
  obtain ⟨l, xs, h, b, rfl, hI, h0, b0, b1, hT, q⟩ := h
  refine ⟨_, (zae (zav (i := 4) zcr.nd rfl (Or.inl rfl) (zal zaI (hr.mono (by decide)) rfl (zaa (zal zcx (hr.mono (by decide)) rfl (zaa (pv 0) (zaa (pv 3) zac))) (zaa (zaz zac) zac))))
      (zae (zav (i := 5) zcr.nd rfl (Or.inl rfl) (pv 2))
      (zae (zav (i := 6) zcr.nd rfl (Or.inl rfl) (zaz zac))
      (zae (zfg PassesOwn.never (PW.pt (zfD (zap zdM (zax zaF rfl T.zdS zcB (zaa (pv 4) zac)) zab (zaw _)) (zen (zap zdM (pv 1) zab (zaw _))))) (zae (zav (i := 7) zcr.nd rfl (Or.inl rfl) (zal zbY (hr.mono (by decide)) rfl (zaa (pv 4) (zaa (pv 1) (zaa (pv 5) zac)))))
      (zae (zcZ (zgz PySem.F.plainAttrs_list PySem.F.slot_list_append PySem.F.type_list_append zdi (pv 6) (zaa (zaB (zaa (pv 5) (zaa (zaq zao (pv 7) zab (fun _ _ => rfl)) zac))) zac)))
      (zae (zav (i := 4) zcr.nd rfl (Or.inl rfl) (zaq zao (pv 7) zab (fun _ _ => rfl)))
      (zaf (zlN (i := 5) zcr.nd rfl (Or.inl rfl) zab zlO))))))
      (zaf (zau (pv 6))))))), ?_⟩
  refine ⟨_, rfl, _, rfl, l, rfl, sz 0 (by decide), fun l1 H1 s1 n1 h1 => ?_⟩
  refine ⟨l, l1, xs, [], rfl, hI.same s1, h1, fun D1 H2 bs s2 nD1 B => ?_⟩
  obtain ⟨hI2, e2⟩ := (hI.same s1).next s2 B
  refine ⟨_, rfl, sz 0 (by decide), fun D H3 s3 n3 h3 => ?_⟩
  have s02 := s1.trans s2
  generalize hc0 : bhC [] (xs.map (·.2)) = c0 at e2
  have hn : 0 < h.toNat := by omega
  have s480 : sumC c0 ≤ 480 := by rw [← e2]; exact hI2.sum
  refine zfh (fun σ' H' => ∃ (l' : Addr) (xs' : List (Addr × Cl × Int)) (rs : List (Addr × Addr × Int × List Int)) (n : Nat) (v7 : Option V), σ' = [some (.ref l), some (.int h), some (.int b), some .non, some (.ref l'), some (.int (b + n)), some (.ref D), v7] ∧ Same H2 H' ∧ ChIn K H' l' xs' ∧ xs'.map (·.2) = (runN h.toNat n b c0).2 ∧ (∀ k, k ∈ (runN h.toNat n b c0).2 → 0 < k.2) ∧ IsRun H' D rs ∧ rs.map (fun r => (r.2.2.1, r.2.2.2)) = (runN h.toNat n b c0).1 ∧ (∀ r, r ∈ rs → H2 r.2.1 = none ∧ r.2.1 ≠ D ∧ r.2.2.2.length ≤ 40) ∧ (∀ k, k < n → (runN h.toNat k b c0).2 ≠ []) ∧ n + (sumC (runN h.toNat n b c0).2 + (1001 - (b + n)).toNat) ≤ sumC c0 + (1001 - b).toNat)
    (fun σ' _ => match σ' with | [_, _, _, _, _, some (.int t), _, _] => sumC (runN h.toNat (t - b).toNat b c0).2 + (1001 - t).toNat | _ => 0) ?_ ?_ ?_
  · refine ⟨D1, _, [], 0, _, by rw [show b + ((0 : Nat) : Int) = b by omega]; rfl, s3, hI2.same s3, e2, ?_, ⟨h3, fun r hr => by simp at hr, fun r hr => by simp at hr⟩, rfl, fun r hr => by simp at hr, fun k hk => by omega, by show 0 + (sumC c0 + (1001 - (b + ((0 : Nat) : Int))).toNat) ≤ _; omega⟩
    show ∀ k, k ∈ c0 → 0 < k.2
    rw [← hc0]
    exact fun k hk => zc7 hk
  · rintro σ' H4 ⟨l', xs', rs, n, v7, rfl, s4, hI4, ex, pos, R, er, hr, ln, rl⟩
    have mx : (xs'.map fun q => V.ref q.1).length = xs'.length := List.length_map _
    refine ⟨_, rfl, l', _, rfl, .inl (SqL.of hI4.chs.at_), _, _, rfl, rfl, _, rfl, ?_⟩
    rw [mx]
    have lrs : rs.length = n := by
      have := congrArg List.length er
      rw [List.length_map, zcw] at this
      exact this
    cases exs : xs' with
    | nil =>
      subst exs
      refine ziN (by simp) (iteF ?_)
      refine ⟨_, rfl, q D H4 rs (s02.trans s4) (Same.free s02 n3) ⟨R, fun r h' => Same.free s02 (hr r h').1, fun r h' => (hr r h').2.1, n, by rw [hc0]; exact er, by rw [hc0]; exact ex.symm, by rw [hc0]; exact ln⟩ (fun r h' => (hr r h').2.2) (by rw [lrs]; omega)⟩
    | cons x0 xt =>
      rw [← exs]
      have ne : (runN h.toNat n b c0).2 ≠ [] := by rw [← ex, exs]; simp
      refine iteD (by rw [exs, List.length_cons]; omega) ?_
      refine ⟨_, rfl, _, _, rfl, rfl, _, rfl, iteD h0 ?_⟩
      refine ⟨_, rfl, _, rfl, _, rfl, l', xs', h, _, rfl, hI4, by omega, s4 _ _ (s02 _ _ hT), fun p m2 D2 H5 bs2 s5 hp nm nD2 mD hm2 B2 => ?_⟩
      have R5 := R.same s5
      have m2D : m2 ≠ D := fun z => by rw [z, R.at_] at nm; cases nm
      refine ⟨_, rfl, .inl ⟨rfl, _, SqL.of R5.at_⟩, _, rfl, _, rfl, p, _, _, _, rfl, rfl, SqT.of hp, rfl, sz 2 (by decide), fun p6 H6 s6 n6 h6 => ?_⟩
      have R6 := R5.same s6
      refine ⟨D, _, _, rfl, rfl, R6.at_, ?_, fun H7 k7 h7 => ?_⟩
      · rw [List.length_map, lrs]
        have z : (100000 : Nat) ≤ sizeLine := by decide
        omega
      have hp6 := s6 _ _ hp
      have hp7 := k7 _ _ (fun z => by rw [z, R6.at_] at hp6; cases hp6) hp6
      refine ⟨_, rfl, p, _, _, _, rfl, rfl, SqT.of hp7, rfl, ?_⟩
      obtain ⟨hI5, e5⟩ := hI4.next s5 B2
      have D2D : D2 ≠ D := fun z => by rw [z, R.at_] at nD2; cases nD2
      have B6 := B2.same s6
      have B7 : IsBh H7 D2 (behL H4 (zbH (b + n) h.toNat xs') xs') bs2 := ⟨k7 _ _ D2D B6.at_, fun c hc => k7 _ _ (fun z => by have := B6.rw c hc; rw [z, R6.at_] at this; cases this) (B6.rw c hc), B6.eq⟩
      have s47 : Same H2 H7 := (s4.trans (s5.trans s6)).but n3 k7
      have hI7 : ChIn K H7 D2 (zipB bs2 (behL H4 (zbH (b + n) h.toNat xs') xs')) := by
        have hI6 := hI5.same s6
        exact ⟨hI6.chs.but k7 R6.at_ D2D, hI6.len, hI6.ok, hI6.nd⟩
      have ew : zbH (b + n) h.toNat xs' = wkC (b + n) h.toNat (runN h.toNat n b c0).2 := by rw [zdQ, ex]
      have dn := zhs (t := b + n) hn ne pos (by rw [← ex]; exact hI4.cm)
      refine ⟨_, rfl, _, _, rfl, rfl, ⟨D2, zipB bs2 (behL H4 (zbH (b + n) h.toNat xs') xs'), rs ++ [(p6, m2, b + n, zbH (b + n) h.toNat xs')], n + 1, _, by rw [show b + ((n + 1 : Nat) : Int) = b + n + 1 by omega]; rfl, s47, hI7, ?_, ?_, ?_, ?_, ?_, ?_, ?_⟩, ?_⟩
      · rw [e5, ex, zaK, ew]
      · rw [zaK]
        exact fun k hk => zc7 hk
      · exact R6.app k7 h7 h6 (s6 _ _ hm2) m2D fun r h' => (hr r h').2.1
      · rw [List.map_append, er, zaK, ← ew]
        rfl
      · intro r h'
        rcases List.mem_append.mp h' with h' | h'
        · exact hr r h'
        · rw [List.mem_singleton.mp h']
          exact ⟨Same.free s4 nm, m2D, zkP hI4 _ _⟩
      · intro k hk
        by_cases kn : k = n
        · subst kn
          exact ne
        · exact ln k (by omega)
      · rw [zaK]
        show n + 1 + (sumC (bhC (wkC (b + n) h.toNat (runN h.toNat n b c0).2) (runN h.toNat n b c0).2) + (1001 - (b + ((n + 1 : Nat) : Int))).toNat) ≤ _
        omega
      · show sumC (runN h.toNat (b + n + 1 - b).toNat b c0).2 + (1001 - (b + n + 1)).toNat < sumC (runN h.toNat (b + n - b).toNat b c0).2 + (1001 - (b + n)).toNat
        rw [show (b + (n : Int) + 1 - b).toNat = n + 1 by omega, show (b + (n : Int) - b).toNat = n by omega, zaK]
        exact dn
  · intro σ' H' Q1 Q2 hq h
    obtain ⟨v1, e1, a, ys, e3, hs, i, j, e4, e5, bb, eb, h⟩ := h
    refine ⟨v1, e1, a, ys, e3, hs, i, j, e4, e5, bb, eb, ?_⟩
    by_cases c : bb = true
    · rw [if_pos c] at h ⊢
      obtain ⟨w1, f1, i2, j2, f3, f4, b2, f5, h⟩ := h
      exact ⟨w1, f1, i2, j2, f3, f4, b2, f5, hq _ _ h⟩
    · rw [if_neg c] at h ⊢
      exact hq _ _ h
def zdV : Sp := fun vs H Q _ => ∃ x k m : Int, vs = [.int x, .int k, .int m] ∧ 0 ≤ k ∧ 0 < m ∧ ∀ r : Int, 0 ≤ r → r < m → Q (.int r) H
def zge : Sp := fun vs H Q _ => ∃ x k : Int, vs = [.int x, .int k] ∧ 0 ≤ k ∧ ∀ r : Int, 0 ≤ r → Q (.int r) H
def zkR (K : PySem.W.Frag) : Sp := fun vs H Q _ => ∃ (p : Addr) (c : Cl) (t : Int), vs = [.ref p, .int t] ∧ IsCl K H p c ∧ c.Ok ∧ Q (.int (wM c t 27720)) H
def zkS (K : PySem.W.Frag) : Sp := fun vs H Q _ => ∃ (l : Addr) (ps : List (Addr × Cl)) (t : Int), vs = [.ref l, .int t] ∧ IsCs K H l ps ∧ Good (ps.map (·.2)) ∧ ps.length ≤ 40 ∧
  ∀ m H', Same H H' → H m = none → H' m = some (.lst (((ord (ps.map (·.2)) t).map (·.n)).map V.int)) → Q (.ref m) H'
theorem zgL : FnScope ["_law_script", "_law_k"] ["_law_script", "_law_k"] (zad zbP) := ⟨rfl, rfl, rfl, by decide +kernel, rfl, by decide +kernel, by decide +kernel⟩
theorem zgM (D : Dfn K mg "_law_cell" zbP ["_law_script", "_law_k"] f fd) (T : Txt K mg c_WaitError c_NoPiece c_NoEnd) : Cal P w K mg base "_law_cell" 1 ["_law_script", "_law_k"] (zkN K) := by
  refine D.cal (D.F.ok zgL (fun vs H Q E h => ?_) (fun cdv A outer s H vs Q E hr h => ?_))
  · obtain ⟨a, ns, k, rfl, _⟩ := h
    rfl
  obtain ⟨a, ns, k, rfl, hS, k0, q⟩ := h
  refine ⟨_, (zae (zbb (zap zk4 (pv 1) (zax zaF rfl T.zdS zcB (zaa (pv 0) zac)) (zaw _)) (zaf (zau (zaq zaZ (pv 0) (pv 1) (fun _ _ => rfl)))) zaO)
      (zaf (zau (zat za2 (zat zb3 zab (pv 1)) zab)))), ?_⟩
  refine ⟨_, rfl, _, rfl, a, _, rfl, .inl hS, _, _, rfl, rfl, _, rfl, ?_⟩
  refine ite2 (fun c => ?_) (fun c => ?_)
  · have c' : k < (((ns.map V.int).length : Nat) : Int) := of_decide_eq_true c
    rw [List.length_map] at c'
    have hk : k.toNat < ns.length := by omega
    have z : atI (ns.map V.int) ((k.toNat : Nat) : Int) = some (.int ns[k.toNat]) := zdN (by rw [List.getElem?_map, List.getElem?_eq_getElem hk] <;> rfl)
    rw [show ((k.toNat : Nat) : Int) = k by omega] at z
    exact ⟨_, rfl, _, rfl, a, _, _, _, rfl, rfl, hS, z, q _⟩
  · exact ⟨_, rfl, _, _, rfl, rfl, .inl ⟨by decide, by decide⟩, _, _, rfl, rfl, q _⟩
theorem zdW : FnScope ["_law_cell_here", "_law_k", "_law_number"] ["_law_cell_here", "_law_k"] (zad zck) := ⟨rfl, rfl, rfl, by decide +kernel, rfl, by decide +kernel, by decide +kernel⟩
theorem zh4 (D : Dfn K mg "_law_mix" zck ["_law_cell_here", "_law_k"] f fd) (T : Txt K mg c_WaitError c_NoPiece c_NoEnd) : Cal P w K mg base "_law_mix" 1 ["_law_cell_here", "_law_k"] zge := by
  refine D.cal (D.F.ok zdW (fun vs H Q E h => ?_) (fun cdv A outer s H vs Q E hr h => ?_))
  · obtain ⟨x, k, rfl, _⟩ := h
    rfl
  obtain ⟨x, k, rfl, k0, q⟩ := h
  refine ⟨_, (zae (zav (i := 2) zdW.nd rfl (Or.inl rfl) (zat zcU (zat zb3 (zat za2 (zat zcU (pv 0) zab) (zat zb3 zab (pv 1))) zab) zab))
      (zae (zav (i := 2) zdW.nd rfl (Or.inl rfl) (zat zcU (zat zb3 (pv 2) (pv 2)) zab))
      (zaf (zau (zat zcU (zat za2 (zat za2 (zat zb3 (pv 2) (pv 2)) (zat zb3 zab (pv 2))) (pv 1)) zab))))), ?_⟩
  refine ⟨_, rfl, _, _, rfl, rfl, (by show (0 : Int) < _; decide), _, rfl, _, _, rfl, rfl, .inl ⟨by decide, by decide⟩, _, _, rfl, rfl, _, _, rfl, rfl, .inr ⟨by decide, by decide⟩, _, _, rfl, rfl, (by show (0 : Int) < _; decide), ?_⟩
  have m0 := Int.emod_nonneg ((x % 2147483647 + 7919 * k) * 48271) (show (2147483647 : Int) ≠ 0 by decide)
  have m1 := Int.emod_lt_of_pos ((x % 2147483647 + 7919 * k) * 48271) (show (0 : Int) < 2147483647 by decide)
  dsimp only
  generalize (x % 2147483647 + 7919 * k) * 48271 % 2147483647 = n1 at m0 m1 ⊢
  refine ⟨_, rfl, _, rfl, _, _, rfl, rfl, .inl ⟨by omega, by omega⟩, _, _, rfl, rfl, (by show (0 : Int) < _; decide), ?_⟩
  have m2 := Int.emod_nonneg (n1 * n1) (show (2147483629 : Int) ≠ 0 by decide)
  have m3 := Int.emod_lt_of_pos (n1 * n1) (show (0 : Int) < 2147483629 by decide)
  dsimp only
  generalize n1 * n1 % 2147483629 = n2 at m2 m3 ⊢
  refine ⟨_, rfl, _, rfl, _, _, rfl, rfl, .inl ⟨by omega, by omega⟩, _, rfl, _, _, rfl, rfl, .inl ⟨by decide, by decide⟩, _, _, rfl, rfl, _, rfl, _, _, rfl, rfl, _, _, rfl, rfl, (by show (0 : Int) < _; decide), ?_⟩
  exact q _ (Int.emod_nonneg _ (by decide))
theorem zgN : FnScope ["_law_cell_here", "_law_k", "_law_many"] ["_law_cell_here", "_law_k", "_law_many"] (zad zbQ) := ⟨rfl, rfl, rfl, by decide +kernel, rfl, by decide +kernel, by decide +kernel⟩
theorem zgO (D : Dfn K mg "_law_draw" zbQ ["_law_cell_here", "_law_k", "_law_many"] f fd) (T : Txt K mg c_WaitError c_NoPiece c_NoEnd) (zaX : Cal P w K mg base "_law_mix" 1 ["_law_cell_here", "_law_k"] zge) : Cal P w K mg base "_law_draw" 2 ["_law_cell_here", "_law_k", "_law_many"] zdV := by
  refine D.cal (D.F.ok zgN (fun vs H Q E h => ?_) (fun cdv A outer s H vs Q E hr h => ?_))
  · obtain ⟨x, y, m, rfl, _⟩ := h
    rfl
  obtain ⟨x, k, m, rfl, k0, m0, q⟩ := h
  refine ⟨_, (zfn (zbb (PW.pt (zfD (zap zmS (pv 0) (zat zg8 zab zab) (zaw _)) (zen (zap zdM (zat zku (pv 0) (zat zb3 zab (pv 1))) zab (zaw _))))) (zaf (zau (zat zcU (zat zcU (zat zku (pv 0) (zat zb3 zab (pv 1))) (zat zg8 zab zab)) (pv 2)))) zaO)
      (zaf (zau (zat zcU (zal zaX (hr.mono (by decide)) rfl (zaa (pv 0) (zaa (pv 1) zac))) (pv 2))))), ?_⟩
  refine ⟨fun σ' H' => σ' = [some (.int x), some (.int k), some (.int m)] ∧ H' = H, ?_, ?_⟩
  · refine ⟨_, rfl, _, _, rfl, rfl, ⟨by decide, by decide, by decide⟩, _, _, rfl, rfl, _, rfl, ?_⟩
    refine ite2 (fun c => ?_) (fun c => ?_)
    · refine ⟨_, rfl, _, rfl, _, _, rfl, rfl, .inl ⟨by decide, by decide⟩, _, _, rfl, rfl, by show 0 ≤ 40 * k; omega, _, _, rfl, rfl, _, rfl, ?_⟩
      refine ite2 (fun c2 => ?_) (fun c2 => ?_)
      · refine ⟨_, rfl, _, rfl, _, _, rfl, rfl, .inl ⟨by decide, by decide⟩, _, _, rfl, rfl, by show 0 ≤ 40 * k; omega, _, _, rfl, rfl, ⟨by decide, by decide, by decide⟩, _, _, rfl, rfl, (by show (0 : Int) < _; decide), _, rfl, _, _, rfl, rfl, m0, ?_⟩
        exact q _ (Int.emod_nonneg _ (by omega)) (Int.emod_lt_of_pos _ m0)
      · exact ⟨rfl, rfl⟩
    · exact ⟨rfl, rfl⟩
  · rintro σ' H' ⟨rfl, rfl⟩
    exact ⟨_, rfl, _, rfl, x, _, rfl, k0, fun r r0 => ⟨_, rfl, _, _, rfl, rfl, m0, q _ (Int.emod_nonneg _ (by omega)) (Int.emod_lt_of_pos _ m0)⟩⟩
theorem zcM : FnScope ["_law_cell_here", "_law_k", "_law_top", "_law_bottom"] ["_law_cell_here", "_law_k"] (zad zbi) := ⟨rfl, rfl, rfl, by decide +kernel, rfl, by decide +kernel, by decide +kernel⟩
theorem zfs (D : Dfn K mg "_law_weight" zbi ["_law_cell_here", "_law_k"] f fd) (T : Txt K mg c_WaitError c_NoPiece c_NoEnd) (zaX : Cal P w K mg base "_law_mix" 1 ["_law_cell_here", "_law_k"] zge) (zam : Cal P w K mg base "_law_draw" 2 ["_law_cell_here", "_law_k", "_law_many"] zdV) : Cal P w K mg base "_law_weight" 3 ["_law_cell_here", "_law_k"] zhv := by
  refine D.cal (D.F.ok zcM (fun vs H Q E h => ?_) (fun cdv A outer s H vs Q E hr h => ?_))
  · obtain ⟨x, k, rfl, _⟩ := h
    rfl
  obtain ⟨x, k, rfl, k0, q⟩ := h
  refine ⟨_, (zae (zav (i := 2) zcM.nd rfl (Or.inl rfl) (zaq zaZ (zaz (pai (zag zab (zag zab (zag zab (zag (zat za2 (zat zg8 zab zab) zab) zbw)))))) (zal zam (hr.mono (by decide)) rfl (zaa (pv 0) (zaa (zat za2 (pv 1) zab) (zaa zab zac)))) (fun _ _ => rfl)))
      (zae (zav (i := 3) zcM.nd rfl (Or.inl rfl) (zaq zaZ (zaz (zaa zab (zaa zab (zaa zab zac)))) (zat zcU (zal zaX (hr.mono (by decide)) rfl (zaa (pv 0) (zaa (pv 1) zac))) zab) (fun _ _ => rfl)))
      (zaf (zau (zaB (zaa (zal zam (hr.mono (by decide)) rfl (zaa (pv 0) (zaa (pv 1) (zaa (pv 2) zac)))) (zaa (zat za2 zab (zal zam (hr.mono (by decide)) rfl (zaa (pv 0) (zaa (zat za2 (pv 1) zab) (zaa (pv 3) zac))))) zac))))))), ?_⟩
  refine ⟨_, _, rfl, rfl, ⟨by decide, by decide, by decide⟩, _, _, rfl, rfl, sz 4 (by decide), fun l1 H1 s1 n1 h1 => ⟨_, rfl, _, rfl, _, _, rfl, rfl, x, _, _, rfl, by show 0 ≤ k + 1; omega, by decide, fun r1 r10 r11 => ?_⟩⟩
  obtain ⟨v1, e1, z1⟩ := at_4 (.int 3) (.int 7) (.int 40) (.int ((10 : Int) ^ (6 : Int).toNat + 1)) r10 r11
  have z1 : ∃ top : Int, v1 = .int top ∧ 0 < top ∧ top ≤ 1000001 := by
    rw [pow6] at z1
    rcases z1 with rfl | rfl | rfl | rfl
    · exact ⟨_, rfl, by decide, by decide⟩
    · exact ⟨_, rfl, by decide, by decide⟩
    · exact ⟨_, rfl, by decide, by decide⟩
    · exact ⟨_, rfl, by decide, by decide⟩
  obtain ⟨top, rfl, t0, t1⟩ := z1
  refine ⟨l1, _, _, _, rfl, rfl, SqL.of h1, e1, ?_⟩
  refine ⟨sz 3 (by decide), fun l2 H2 s2 n2 h2 => ⟨_, rfl, _, rfl, x, k, rfl, k0, fun r2 r20 => ⟨_, _, rfl, rfl, (by show (0 : Int) < _; decide), ?_⟩⟩⟩
  obtain ⟨v2, e2, z2⟩ := at_3 (.int 1) (.int 3) (.int 12) (r := r2 % 3) (by omega) (by omega)
  have z2 : ∃ bot : Int, v2 = .int bot ∧ 0 < bot ∧ bot ≤ 12 := by
    rcases z2 with rfl | rfl | rfl
    · exact ⟨_, rfl, by decide, by decide⟩
    · exact ⟨_, rfl, by decide, by decide⟩
    · exact ⟨_, rfl, by decide, by decide⟩
  obtain ⟨bot, rfl, b0, b1⟩ := z2
  refine ⟨l2, _, _, _, rfl, rfl, SqL.of h2, e2, ?_⟩
  refine ⟨_, rfl, _, rfl, _, rfl, x, k, top, rfl, k0, t0, fun r3 r30 r31 => ⟨_, rfl, _, rfl, _, _, rfl, rfl, _, rfl, x, _, bot, rfl, by show 0 ≤ k + 2; omega, b0, fun r4 r40 r41 => ⟨_, _, rfl, rfl, sz 2 (by decide), fun p H3 s3 n3 h3 => ?_⟩⟩⟩
  exact q p H3 r3 (1 + r4) (s1.trans (s2.trans s3)) ⟨h3, by omega, by omega, by omega, by omega⟩
theorem zbZ : FnScope ["_law_claim", "_law_turn_here", "_law_number", "_law_weight_here", "_law_speed", "_law_came", "_law_begin"] ["_law_claim", "_law_turn_here"] (zad zbR) := ⟨rfl, rfl, rfl, by decide +kernel, rfl, by decide +kernel, by decide +kernel⟩
theorem zgP (D : Dfn K mg "_law_heft" zbR ["_law_claim", "_law_turn_here"] f fd) (T : Txt K mg c_WaitError c_NoPiece c_NoEnd) : Cal P w K mg base "_law_heft" 1 ["_law_claim", "_law_turn_here"] (zkR K) := by
  refine D.cal (D.F.ok zbZ (fun vs H Q E h => ?_) (fun cdv A outer s H vs Q E hr h => ?_))
  · obtain ⟨p, c, t, rfl, _⟩ := h
    rfl
  obtain ⟨p, c, t, rfl, hc, ok, q⟩ := h
  refine ⟨_, (zae (zc1 (pv 0) (zca rfl (zas (zaD (i := 2) zbZ.nd rfl (Or.inl rfl)) (zas (zaD (i := 3) zbZ.nd rfl (Or.inl rfl)) (zas (zaD (i := 4) zbZ.nd rfl (Or.inl rfl)) (zas (zaD (i := 5) zbZ.nd rfl (Or.inl rfl)) zbp))))))
      (zae (zav (i := 6) zbZ.nd rfl (Or.inl rfl) (zat zb3 (zaq zao (pv 3) zab (fun _ _ => rfl)) (zat zdE zab (zaq zao (pv 3) zab (fun _ _ => rfl)))))
      (zaf (zau (zat za2 (pv 6) (zat zb3 (zat zb3 (zaq zao (pv 4) zab (fun _ _ => rfl)) (zat zdE zab (zaq zao (pv 4) zab (fun _ _ => rfl)))) (zat ze1 (pv 1) (pv 5)))))))), ?_⟩
  obtain ⟨pw, ps, e1, e2, e3⟩ := id hc.ex
  have hw : SqT K H pw [.int c.wt, .int c.wb] := SqT.of e2
  have hs : SqT K H ps [.int c.st, .int c.sb] := SqT.of e3
  have w2 := ok.w2
  have w3 := ok.w3
  have b2 := ok.s2
  have b3 := ok.s3
  have d1 : 27720 / c.wb ≤ 27720 := Int.ediv_le_self _ (by omega)
  have d2 : 0 ≤ 27720 / c.wb := Int.ediv_nonneg (by omega) (by omega)
  have d3 : 27720 / c.sb ≤ 27720 := Int.ediv_le_self _ (by omega)
  have d4 : 0 ≤ 27720 / c.sb := Int.ediv_nonneg (by omega) (by omega)
  have d5 : c.st * (27720 / c.sb) ≤ 1000000 * 27720 := Int.mul_le_mul ok.s1 (by omega) d4 (by decide)
  have d6 : 0 ≤ c.st * (27720 / c.sb) := Int.mul_nonneg ok.s0 d4
  refine ⟨_, rfl, p, _, rfl, SqT.of e1, rfl, _, _, rfl, _, _, rfl, _, _, rfl, _, _, rfl, rfl, ?_⟩
  refine ⟨_, rfl, pw, _, _, _, rfl, rfl, hw, rfl, _, rfl, pw, _, _, _, rfl, rfl, hw, rfl, _, _, rfl, rfl, ⟨w2, by omega⟩, _, _, rfl, rfl, .inr ⟨by omega, by omega⟩, ?_⟩
  refine ⟨_, rfl, _, rfl, ps, _, _, _, rfl, rfl, hs, rfl, _, rfl, ps, _, _, _, rfl, rfl, hs, rfl, _, _, rfl, rfl, ⟨b2, by omega⟩, _, _, rfl, rfl, .inr ⟨by omega, by omega⟩, _, rfl, _, rfl, _, _, rfl, rfl, _, _, rfl, rfl, .inl ⟨by omega, by omega⟩, _, _, rfl, rfl, ?_⟩
  have e : c.wt * (27720 / c.wb) + c.st * (27720 / c.sb) * (t - c.came) = wM c t 27720 := by
    unfold wM
    rw [Int.mul_comm (t - c.came)]
  show Q (V.int (c.wt * (27720 / c.wb) + c.st * (27720 / c.sb) * (t - c.came))) H
  rw [e]
  exact q
theorem zd9 : FnScope ["_law_claims", "_law_turn_here", "_law_keys"] ["_law_claims", "_law_turn_here"] (zad zbB) := ⟨rfl, rfl, rfl, by decide +kernel, rfl, by decide +kernel, by decide +kernel⟩
theorem zgf (D : Dfn K mg "_law_order" zbB ["_law_claims", "_law_turn_here"] f fd) (T : Txt K mg c_WaitError c_NoPiece c_NoEnd) (zdX : Cal P w K mg base "_law_heft" 1 ["_law_claim", "_law_turn_here"] (zkR K)) : Cal P w K mg base "_law_order" 2 ["_law_claims", "_law_turn_here"] (zkS K) := by
  refine D.cal (D.F.ok zd9 (fun vs H Q E h => ?_) (fun cdv A outer s H vs Q E hr h => ?_))
  · obtain ⟨l, ps, t, rfl, _⟩ := h
    rfl
  obtain ⟨l, ps, t, rfl, hC, G, pl, q⟩ := h
  refine ⟨_, (zae (zc6 (i := 2) (N := ["_law_claim", "_law_turn_here"]) (js := [1]) zd9.nd rfl rfl rfl (CompScope.of rfl rfl rfl rfl rfl (by decide +kernel) rfl rfl rfl rfl) (zaE (pv 0)) (fun _ _ _ _ _ => zb4) (fun _ _ _ _ _ => (zaB (zaa (zat ze1 zab (zal zdX (hr.mono (by decide)) rfl (zaa (pv 0) (zaa (pv 1) zac)))) (zaa (zaq (r := rIxT K) zao (pv 0) zab (fun _ _ => rfl)) (zaa (zaq (r := rIxT K) zao (pv 0) zab (fun _ _ => rfl)) zac))))))
      (zaf (zau (zcv (N := ["_law_key"]) (js := []) rfl (CompScope.of rfl rfl rfl rfl rfl (by decide +kernel) rfl rfl rfl rfl) (zaE (zax zhW rfl T.zhu zf0 (zaa (pv 2) zac))) (fun _ _ _ _ _ => zb4) (fun _ _ _ _ _ => (zaq (r := rIxT K) zao (pv 0) zab (fun _ _ => rfl))))))), ?_⟩
  have ml : (ps.map fun q => V.ref q.1).length = ps.length := List.length_map _
  have hM : ∀ c ∈ ps.map (·.2), c.wb ∣ 27720 ∧ c.sb ∣ 27720 := fun c hc => by
    have o := G.ok c hc
    exact ⟨zeA o.w2 o.w3, zeA o.s2 o.s3⟩
  refine ⟨_, rfl, l, rfl, ⟨_, SqL.of hC.at_⟩, ?_⟩
  refine zf3 (xs := ps.map fun q => V.ref q.1) (tak ps fun _ => true) (itl ps fun q => (kM q.2 t 27720).map V.int) (SqL.of hC.at_) ?_ ?_ (zaA (by rw [ml]; omega)) (fun D1 H1 bs s1 nD1 hD1 eb hb => ?_)
  · intro j x Hh Q' hxj sh q'
    have z := q' Hh (Same.refl _)
    unfold tak at z
    rw [List.getElem?_map] at hxj
    cases ek : ps[j]? with
    | none => rw [ek] at hxj; cases hxj
    | some k =>
      rw [ek] at z
      exact z
  · intro i x Hh Q' hx _ sh q'
    rw [List.getElem?_map] at hx
    cases e : ps[i]? with
    | none => rw [e] at hx; cases hx
    | some y =>
      rw [e] at hx
      cases hx
      have hy := List.mem_of_getElem? e
      have hcy := (hC.cl y hy).same sh
      obtain ⟨pw, pz, z1, _, _⟩ := id hcy.ex
      refine ⟨_, rfl, _, rfl, y.1, y.2, t, rfl, hcy, G.ok y.2 (List.mem_map.mpr ⟨y, hy, rfl⟩), ?_⟩
      refine ⟨_, _, rfl, rfl, _, rfl, y.1, _, _, _, rfl, rfl, SqT.of z1, rfl, _, rfl, y.1, _, _, _, rfl, rfl, SqT.of z1, rfl, sz 3 (by decide), fun r H4 s4 n4 h4 => q' r H4 s4 ?_⟩
      rw [h4]
      unfold itl
      rw [e]
      show some (HO.tup [V.int (0 - wM y.2 t 27720), _, _]) = some (HO.tup [V.int (-wM y.2 t 27720), _, _])
      rw [Int.zero_sub]
  rw [ml, zeC, zfq] at eb
  have lb : bs.length = ps.length := by
    have := congrArg List.length eb
    rw [List.length_map, List.length_map] at this
    exact this
  have mb : (bs.map fun b => V.ref b.1).length = (ps.map (·.2)).length := by rw [List.length_map, List.length_map, lb]
  have M0 : (0 : Int) < 27720 := by decide
  have at_b : ∀ (i : Nat) b, bs[i]? = some b → H1 b.1 = some (.tup ((zcX (ps.map (·.2)) t 27720 i).map V.int)) := fun i b hi => by
    rw [hb b (List.mem_of_getElem? hi)]
    have := congrArg (·[i]?) eb
    simp only [List.getElem?_map, hi, Option.map_some] at this
    unfold zcX
    cases ep : ps[i]? with
    | none => rw [ep] at this; cases this
    | some y =>
      rw [ep] at this
      rw [List.getElem?_map, ep, Option.some.inj this]
      rfl
  refine ⟨_, rfl, D1, _, zcX (ps.map (·.2)) t 27720, 3, rfl, SqL.of hD1, by rw [mb, List.length_map]; omega, zkF _ t 27720, by decide, by rw [mb]; exact zkG G M0 hM, fun i v hv => ?_, fun D2 H2 p s2 n2 h2 hp hs => ?_⟩
  · rw [List.getElem?_map] at hv
    cases e : bs[i]? with
    | none => rw [e] at hv; cases hv
    | some b =>
      rw [e] at hv
      cases hv
      exact ⟨b.1, rfl, at_b i b e⟩
  rw [mb] at hp
  have d : Addr × Cl := (0, ⟨0, 0, 1, 0, 1, 0⟩)
  have hp2 : p.Perm (List.range ps.length) := by simpa using hp
  have lt : ∀ i ∈ p, i < ps.length := fun i hi => List.mem_range.mp (hp2.mem_iff.mp hi)
  have srt := zho G M0 hM hp d hs
  have prm : ((p.map fun i => ps.getD i d).map (·.2)).Perm (ps.map (·.2)) := (zf2 d ps hp2).map _
  refine ⟨D2, rfl, ⟨_, SqL.of h2⟩, ?_⟩
  have lp : (p.map fun i => (bs.map fun b => V.ref b.1).getD i .non).length = p.length := List.length_map _
  have pl2 : p.length = ps.length := by simpa using hp2.length_eq
  refine zbg (xs := p.map fun i => (bs.map fun b => V.ref b.1).getD i .non) (fun _ => true) (itm p fun i => V.int (ps.getD i d).2.n) (SqL.of h2) (fun i x Hh Q' hx sh q' => q' Hh (Same.refl _)) ?_ (zaA (by rw [lp]; omega)) (fun D H3 s3 nD hD => ?_)
  · intro i x Hh Q' hx _ sh q'
    rw [List.getElem?_map] at hx
    cases e : p[i]? with
    | none => rw [e] at hx; cases hx
    | some j =>
      rw [e] at hx
      have jl := lt j (List.mem_of_getElem? e)
      have jb : bs[j]? = some (bs[j]'(by omega)) := List.getElem?_eq_getElem (by omega)
      have hx : V.ref (bs[j]'(by omega)).1 = x := by
        have hx : (bs.map fun b => V.ref b.1).getD j .non = x := Option.some.inj hx
        rw [List.getD_eq_getElem?_getD, List.getElem?_map, jb] at hx
        exact hx
      subst hx
      have tj := sh _ _ (s2 _ _ (at_b j _ jb))
      have kj : zcX (ps.map (·.2)) t 27720 j = kM (ps.getD j d).2 t 27720 := by
        unfold zcX
        rw [List.getElem?_map, List.getD_eq_getElem?_getD, List.getElem?_eq_getElem jl]
        rfl
      rw [kj] at tj
      refine ⟨_, rfl, _, _, _, _, rfl, rfl, SqT.of tj, rfl, ?_⟩
      have z := q' Hh (Same.refl _)
      unfold itm at z
      rw [e] at z
      exact z
  rw [zcd, lp, zdq] at hD
  refine q D H3 (s1.trans (s2.trans s3)) (Same.free (s1.trans s2) nD) ?_
  rw [hD, ← zhk G prm srt, List.map_map, List.map_map, List.map_map]
  rfl
def zgQ (K : PySem.W.Frag) : Sp := fun vs H Q _ => ∃ (l : Addr) (xs : List (Addr × Cl × Int)) (h t : Int), vs = [.ref l, .int h, .int t] ∧ ChIn K H l xs ∧ 0 ≤ h ∧
  ∀ p m D H' bs, Same H H' → H' p = some (.tup [.ref m, .ref D]) → H m = none → H D = none → m ≠ D → H' m = some (.lst ((zbH t h.toNat xs).map V.int)) → IsBh H' D (behL H (zbH t h.toNat xs) xs) bs → Q (.ref p) H'
theorem zcN : FnScope ["_law_rows", "_law_hands", "_law_turn_here", "_law_there", "_law_numbers", "_law_behind"] ["_law_rows", "_law_hands", "_law_turn_here"] (zad zbS) := ⟨rfl, rfl, rfl, by decide +kernel, rfl, by decide +kernel, by decide +kernel⟩
theorem zgR (D : Dfn K mg "_law_turn" zbS ["_law_rows", "_law_hands", "_law_turn_here"] f fd) (T : Txt K mg c_WaitError c_NoPiece c_NoEnd) (zdw : Cal P w K mg base "_law_order" 2 ["_law_claims", "_law_turn_here"] (zkS K)) : Cal P w K mg base "_law_turn" 3 ["_law_rows", "_law_hands", "_law_turn_here"] (zgQ K) := by
  refine D.cal (D.F.ok zcN (fun vs H Q E h => ?_) (fun cdv A outer s H vs Q E hr h => ?_))
  · obtain ⟨l, xs, h, t, rfl, _⟩ := h
    rfl
  obtain ⟨l, xs, h, t, rfl, hx, h0, q⟩ := h
  refine ⟨_, (zae (zdj (i := 3) (nk := 2) (g := (gTup K 2 (zc0 (zcb 0) (zc0 (zcb 1) gNil)))) (N := ["_law_claim", "_law_left", "_law_turn_here"]) (js := [2]) zcN.nd rfl rfl rfl (CompScopeN.of rfl rfl rfl rfl rfl (by decide +kernel) rfl rfl rfl) (fun _ _ _ _ _ hn => (zca rfl (zas (hn 0 _ _ rfl (by decide)) (zas (hn 1 _ _ rfl (by decide)) zbp)))) (zaE (pv 0)) (fun _ _ _ _ _ => (zdF (PW.pt (zfD (zap zit (zaq (r := rIxT K) zao (pv 0) zab (fun _ _ => rfl)) (pv 2) (zaw _)) (zen (zap zdM (pv 1) zab (zaw _))))))) (fun _ _ _ _ _ => (pv 0)))
      (zae (zav (i := 4) zcN.nd rfl (Or.inr rfl) (zbv zb2 (zal zdw (hr.mono (by decide)) rfl (zaa (pv 3) (zaa (pv 2) zac))) zb7 (zbM (pv 1))))
      (zae (zdj (i := 5) (nk := 2) (g := (gTup K 2 (zc0 (zcb 0) (zc0 (zcb 1) gNil)))) (N := ["_law_claim", "_law_left", "_law_numbers"]) (js := [4]) zcN.nd rfl rfl rfl (CompScopeN.of rfl rfl rfl rfl rfl (by decide +kernel) rfl rfl rfl) (fun _ _ _ _ _ hn => (zca rfl (zas (hn 0 _ _ rfl (by decide)) (zas (hn 1 _ _ rfl (by decide)) zbp)))) (zaE (pv 0)) (fun _ _ _ _ _ => zb4) (fun _ _ _ _ _ => (zaB (zaa (pv 0) (zaa (zat ze1 (pv 1) (zbs zdC rfl T.zh3 ze4 (zaa (zc3 (zkI (K := K) rfl) (zaq (r := rIxT K) zao (pv 0) zab (fun _ _ => rfl)) (pv 2) (by with_unfolding_all rfl)) zac))) zac)))))
      (zaf (zau (zaB (zaa (pv 4) (zaa (zcv (N := ["_law_row"]) (js := []) rfl (CompScope.of rfl rfl rfl rfl rfl (by decide +kernel) rfl rfl rfl rfl) (zaE (pv 5)) (fun _ _ _ _ _ => (zdF (zap zdM (zaq (r := rIxT K) zao (pv 0) zab (fun _ _ => rfl)) zab (zaw _)))) (fun _ _ _ _ _ => (pv 0))) zac)))))))), ?_⟩
  refine ⟨_, rfl, l, rfl, ⟨_, SqL.of hx.chs.at_⟩, ?_⟩
  have ml : (xs.map fun q => V.ref q.1).length = xs.length := List.length_map _
  have fl : ∀ ns : List Int, (ns.map V.int).all zaM = true := fun ns => List.all_eq_true.mpr fun y hy => by obtain ⟨i, _, rfl⟩ := List.mem_map.mp hy; rfl
  refine zdk (xs := xs.map fun q => V.ref q.1) (sts 2 xs fun k => [.ref (kcOf H k.1), .int k.2.2]) (tak xs (zds t)) (itm xs fun k => V.ref (kcOf H k.1)) (SqL.of hx.chs.at_) (zdr fun _ => rfl) ?_ ?_ ?_ (zaA (by rw [ml]; exact Nat.le_trans hx.len (by decide))) (fun D1 H2 s2 nD1 hD1 => ?_)
  · intro j x Hh os R' hxj sh ol r'
    obtain ⟨o1, o2, rfl⟩ := len2 ol
    rw [List.getElem?_map] at hxj
    cases ek : xs[j]? with
    | none => rw [ek] at hxj; cases hxj
    | some k =>
      rw [ek] at hxj
      cases hxj
      unfold sts at r'
      rw [ek] at r'
      exact ⟨k.1, _, rfl, SqT.of (sh _ _ (hx.chs.ch k (List.mem_of_getElem? ek)).kc.1), rfl, _, _, rfl, _, _, rfl, rfl, r'⟩
  · intro i x Hh Q' hi sh q'
    rw [List.getElem?_map] at hi
    cases e : xs[i]? with
    | none => rw [e] at hi; cases hi
    | some k =>
      rw [e] at hi
      cases hi
      have z := q' Hh (Same.refl _)
      unfold tak zds at z
      unfold sts
      rw [e] at z ⊢
      have z : Q' (decide (0 < k.2.2) && decide (k.2.1.came ≤ t)) Hh := z
      obtain ⟨k1, k2⟩ := (hx.chs.ch k (List.mem_of_getElem? e)).kc
      obtain ⟨_, _, c1, _, _⟩ := id k2.ex
      rw [Bool.and_comm] at z
      refine ⟨_, rfl, _, _, _, _, rfl, rfl, SqT.of (sh _ _ c1), rfl, _, rfl, _, _, rfl, rfl, _, rfl, ?_⟩
      by_cases c1' : k.2.1.came ≤ t
      · refine iteD c1' ?_
        rw [decide_eq_true c1', Bool.true_and] at z
        exact ⟨_, rfl, _, _, rfl, rfl, _, rfl, z⟩
      · refine ziN c1' ?_
        rw [decide_eq_false c1', Bool.false_and] at z
        exact z
  · intro i x Hh Q' hi _ sh q'
    rw [List.getElem?_map] at hi
    cases e : xs[i]? with
    | none => rw [e] at hi; cases hi
    | some k =>
      rw [e] at hi
      cases hi
      have z := q' Hh (Same.refl _)
      unfold itm at z
      unfold sts
      rw [e] at z ⊢
      exact ⟨_, rfl, z⟩
  rw [ml, zcj, ← zeE] at hD1
  have hC : IsCs K H2 D1 (zcD H t xs) := ⟨hD1, fun c hc => (zf5 hx.chs t hc).same s2⟩
  have G : Good ((zcD H t xs).map (·.2)) := by rw [zdH]; exact hx.good t
  refine ⟨_, rfl, _, rfl, D1, zcD H t xs, t, rfl, hC, G, Nat.le_trans (zfa _ _ _) hx.len, fun m3 H3 s3 n3 h3 => ?_⟩
  rw [zdH] at h3
  refine ⟨_, rfl, _, rfl, m3, _, rfl, SqL.of h3, fun m H4 s4 nm h4 => ?_⟩
  have hm : H4 m = some (.lst ((zbH t h.toNat xs).map V.int)) := by
    rw [h4]
    unfold zbH cutV
    rw [HT.sIx_none, show h = ((h.toNat : Nat) : Int) by omega, HT.sIx_nat, List.length_map, List.drop_zero, Nat.sub_zero, List.map_take, Int.toNat_natCast]
    congr 2
    rw [Nat.min_def]
    split
    · rfl
    · rw [List.take_of_length_le (by rw [List.length_map]; omega), List.take_of_length_le (by rw [List.length_map]; omega)]
  have s04 := s2.trans (s3.trans s4)
  have nm0 : H m = none := Same.free (s2.trans s3) nm
  have eB : behL H (zbH t h.toNat xs) xs = behL H4 (zbH t h.toNat xs) xs := (zf4 hx.chs s04 _).symm
  rw [eB] at q
  generalize zbH t h.toNat xs = ws at hm q
  clear eB h4 hC G hD1
  have hx := hx.same s04
  refine ⟨_, rfl, l, rfl, ⟨_, SqL.of hx.chs.at_⟩, ?_⟩
  refine zhY (xs := xs.map fun q => V.ref q.1) (sts 2 xs fun k => [.ref (kcOf H4 k.1), .int k.2.2]) (tak xs fun _ => true) (itl xs fun k => [V.ref (kcOf H4 k.1), V.int (zbq ws k.2)]) (SqL.of hx.chs.at_) (zdr fun _ => rfl) ?_ ?_ ?_ (zaA (by rw [ml]; exact Nat.le_trans hx.len (by decide))) (fun D H5 bs s5 nD hD eb hb => ?_)
  · intro j x Hh os R' hxj sh ol r'
    obtain ⟨o1, o2, rfl⟩ := len2 ol
    rw [List.getElem?_map] at hxj
    cases ek : xs[j]? with
    | none => rw [ek] at hxj; cases hxj
    | some k =>
      rw [ek] at hxj
      cases hxj
      unfold sts at r'
      rw [ek] at r'
      exact ⟨k.1, _, rfl, SqT.of (sh _ _ (hx.chs.ch k (List.mem_of_getElem? ek)).kc.1), rfl, _, _, rfl, _, _, rfl, rfl, r'⟩
  · intro i x Hh Q' hi sh q'
    have z := q' Hh (Same.refl _)
    unfold tak at z
    rw [List.getElem?_map] at hi
    cases e : xs[i]? with
    | none => rw [e] at hi; cases hi
    | some k =>
      rw [e] at z
      exact z
  · intro i x Hh Q' hi _ sh q'
    rw [List.getElem?_map] at hi
    cases e : xs[i]? with
    | none => rw [e] at hi; cases hi
    | some k =>
      rw [e] at hi
      cases hi
      obtain ⟨k1, k2⟩ := (hx.chs.ch k (List.mem_of_getElem? e)).kc
      obtain ⟨_, _, c1, _, _⟩ := id k2.ex
      unfold sts
      rw [e]
      refine ⟨_, rfl, _, rfl, _, rfl, _, _, _, _, rfl, rfl, SqT.of (sh _ _ c1), rfl, _, rfl, m, _, rfl, .inl (SqL.of (sh _ _ hm)), rfl, fl _, .inr ⟨_, rfl, _, _, rfl, rfl, sz 2 (by decide), fun b H3 s3 n3 h3 => q' b H3 s3 ?_⟩⟩
      rw [h3]
      unfold itl
      rw [e]
      have ei : (if false = true then !inV (.int k.2.1.n) (ws.map V.int) else inV (.int k.2.1.n) (ws.map V.int)) = decide (k.2.1.n ∈ ws) := by
        rw [if_neg Bool.false_ne_true]
        exact zeB
      have en : k.2.2 - (if (if false = true then !inV (.int k.2.1.n) (ws.map V.int) else inV (.int k.2.1.n) (ws.map V.int)) = true then 1 else 0) = zbq ws k.2 := by
        rw [ei]
        unfold zbq
        by_cases c : k.2.1.n ∈ ws
        · rw [decide_eq_true c, if_pos rfl, if_pos c]
        · rw [decide_eq_false c, if_neg Bool.false_ne_true, if_neg c]
          omega
      exact congrArg (fun z => some (HO.tup [V.ref (kcOf H4 k.1), V.int z])) en
  rw [ml, zeC, zfq] at eb
  have lb : bs.length = xs.length := by
    have := congrArg List.length eb
    rw [List.length_map, List.length_map] at this
    exact this
  have mb : (bs.map fun b => V.ref b.1).length = bs.length := List.length_map _
  refine ⟨_, rfl, _, rfl, D, rfl, ⟨_, SqL.of hD⟩, ?_⟩
  have parts : ∀ b, b ∈ bs → ∃ (a : Addr) (i : Int), b.2 = [.ref a, .int i] := fun b hb' => by
    have : b.2 ∈ bs.map (·.2) := List.mem_map.mpr ⟨b, hb', rfl⟩
    rw [eb] at this
    obtain ⟨k, _, e⟩ := List.mem_map.mp this
    exact ⟨_, _, e.symm⟩
  refine zbg (xs := bs.map fun b => V.ref b.1) (tak bs fun b => plV b.2) (itm bs fun b => V.ref b.1) (SqL.of hD) ?_ ?_ (zaA (by rw [mb, lb]; exact Nat.le_trans hx.len (by decide))) (fun D6 H6 s6 nD6 hD6 => ?_)
  · intro i x Hh Q' hi sh q'
    rw [List.getElem?_map] at hi
    cases e : bs[i]? with
    | none => rw [e] at hi; cases hi
    | some b =>
      rw [e] at hi
      cases hi
      have hbm := List.mem_of_getElem? e
      have z := q' Hh (Same.refl _)
      unfold tak at z
      rw [e] at z
      obtain ⟨a, n, e2⟩ := parts b hbm
      have z : Q' (plV b.2) Hh := z
      rw [e2] at z
      have g := sh _ _ (hb b hbm)
      rw [e2] at g
      exact ⟨_, rfl, b.1, _, _, _, rfl, rfl, SqT.of g, rfl, _, _, rfl, rfl, _, rfl, z⟩
  · intro i x Hh Q' hi _ sh q'
    rw [List.getElem?_map] at hi
    cases e : bs[i]? with
    | none => rw [e] at hi; cases hi
    | some b =>
      rw [e] at hi
      cases hi
      have z := q' Hh (Same.refl _)
      unfold itm at z
      rw [e] at z
      exact ⟨_, rfl, z⟩
  rw [mb, zcj] at hD6
  refine ⟨sz 2 (by decide), fun p H7 s7 n7 h7 => ?_⟩
  have B : IsBh H6 D6 (behL H4 ws xs) _ := ⟨hD6, fun b hb' => s6 _ _ (hb b (List.mem_filter.mp hb').1), zml eb⟩
  have nD6' : H4 D6 = none := Same.free s5 nD6
  have mD : m ≠ D6 := fun z => by rw [← z, hm] at nD6'; cases nD6'
  exact q p m D6 H7 _ (s04.trans (s5.trans (s6.trans s7))) h7 nm0 (Same.free s04 nD6') mD (s7 _ _ (s6 _ _ (s5 _ _ hm))) (B.same s7)
def zkT (K : PySem.W.Frag) : Sp := fun vs H Q _ => ∃ (l : Addr) (xs : List (Addr × Cl × Int)) (h b : Int), vs = [.ref l, .int h, .int b] ∧ ChIn K H l xs ∧ 0 < h ∧ 0 ≤ b ∧ b ≤ 1000 ∧
  ∀ D H' rs, Same H H' → H D = none → RunOf H H' h.toNat b (xs.map (·.2)) D rs → (∀ r, r ∈ rs → r.2.2.2.length ≤ 40) → rs.length ≤ 1481 → Q (.ref D) H'
theorem zcI : FnScope ["_law_chores_here", "_law_hands", "_law_begin", "_law_left", "_law_rows", "_law_numbers"] ["_law_chores_here", "_law_hands", "_law_begin"] (zad zcl) := ⟨rfl, rfl, rfl, by decide +kernel, rfl, by decide +kernel, by decide +kernel⟩
theorem zh5 (D : Dfn K mg "_law_run" zcl ["_law_chores_here", "_law_hands", "_law_begin"] f fd) (T : Txt K mg c_WaitError c_NoPiece c_NoEnd) (zcg : Cal P w K mg base "_law_turn" 3 ["_law_rows", "_law_hands", "_law_turn_here"] (zgQ K)) : Cal P w K mg base "_law_run" 4 ["_law_chores_here", "_law_hands", "_law_begin"] (zkT K) := by
  refine D.cal (D.F.ok zcI (fun vs H Q E h => ?_) (fun cdv A outer s H vs Q E hr h => ?_))
  · obtain ⟨l, xs, h, b, rfl, _⟩ := h
    rfl
  obtain ⟨l, xs, h, b, rfl, hI, h0, b0, b1, q⟩ := h
  refine ⟨_, (zae (zc6 (i := 3) (N := ["_law_chore"]) (js := []) zcI.nd rfl rfl rfl (CompScope.of rfl rfl rfl rfl rfl (by decide +kernel) rfl rfl rfl rfl) (zaE (pv 0)) (fun _ _ _ _ _ => (zdF (zap zdM (zaq (r := rIxT K) zao (pv 0) zab (fun _ _ => rfl)) zab (zaw _)))) (fun _ _ _ _ _ => (pv 0)))
      (zae (zav (i := 4) zcI.nd rfl (Or.inl rfl) (zaz zac))
      (zae (zfg PassesOwn.never (zap (zmk hr.units0) (pv 3) (zaz zac) (zaw _)) (zae (zc1 (zal zcg (hr.mono (by decide)) rfl (zaa (pv 3) (zaa (pv 1) (zaa (zat za2 (pv 2) (zax zaF rfl T.zdS zcB (zaa (pv 4) zac))) zac)))) (zca rfl (zas (zaD (i := 5) zcI.nd rfl (Or.inl rfl)) (zas (zaD (i := 3) zcI.nd rfl (Or.inl rfl)) zbp))))
      (zaf (zcZ (zgz PySem.F.plainAttrs_list PySem.F.slot_list_append PySem.F.type_list_append zdi (pv 4) (zaa (zaB (zaa (zat za2 (pv 2) (zax zaF rfl T.zdS zcB (zaa (pv 4) zac))) (zaa (pv 5) zac))) zac))))))
      (zaf (zau (pv 4)))))), ?_⟩
  have ml : (xs.map fun q => V.ref q.1).length = xs.length := List.length_map _
  refine ⟨_, rfl, l, rfl, ⟨_, SqL.of hI.chs.at_⟩, ?_⟩
  refine zbg (xs := xs.map fun q => V.ref q.1) (tak xs fun k => decide (0 < k.2.2)) (itm xs fun k => V.ref k.1) (SqL.of hI.chs.at_) ?_ ?_ (zaA (by rw [ml]; exact Nat.le_trans hI.len (by decide))) (fun D1 H1 s1 nD1 hD1 => ?_)
  · intro i x Hh Q' hi sh q'
    rw [List.getElem?_map] at hi
    cases e : xs[i]? with
    | none => rw [e] at hi; cases hi
    | some k =>
      rw [e] at hi
      cases hi
      have z := q' Hh (Same.refl _)
      unfold tak at z
      rw [e] at z
      obtain ⟨k1, _⟩ := (hI.chs.ch k (List.mem_of_getElem? e)).kc
      exact ⟨_, rfl, k.1, _, _, _, rfl, rfl, SqT.of (sh _ _ k1), rfl, _, _, rfl, rfl, _, rfl, z⟩
  · intro i x Hh Q' hi _ sh q'
    rw [List.getElem?_map] at hi
    cases e : xs[i]? with
    | none => rw [e] at hi; cases hi
    | some k =>
      rw [e] at hi
      cases hi
      have z := q' Hh (Same.refl _)
      unfold itm at z
      rw [e] at z
      exact ⟨_, rfl, z⟩
  rw [ml, zcj] at hD1
  have hI1 : ChIn K H1 D1 (xs.filter fun k => decide (0 < k.2.2)) := ⟨⟨hD1, fun q hq => (hI.chs.ch q (List.mem_filter.mp hq).1).same s1⟩, Nat.le_trans (List.length_filter_le _ _) hI.len, fun q hq => hI.ok q (List.mem_filter.mp hq).1, hI.nd.sublist (List.filter_sublist.map _)⟩
  have e2 : (xs.filter fun k => decide (0 < k.2.2)).map (·.2) = bhC [] (xs.map (·.2)) := by
    rw [zfr, List.filter_map]
    rfl
  generalize hc0 : bhC [] (xs.map (·.2)) = c0 at e2
  have hn : 0 < h.toNat := by omega
  have s480 : sumC c0 ≤ 480 := by rw [← e2]; exact hI1.sum
  refine ⟨sz 0 (by decide), fun D H2 s2 nD h2 => ?_⟩
  have hI2 := hI1.same s2
  have D1D : D1 ≠ D := fun z => by rw [z, nD] at hD1; cases hD1
  have n1 : H D = none := Same.free s1 nD
  have s02 := s1.trans s2
  refine zfh (fun σ' H' => ∃ (l' : Addr) (xs' : List (Addr × Cl × Int)) (rs : List (Addr × Addr × Int × List Int)) (n : Nat) (v5 : Option V), σ' = [some (.ref l), some (.int h), some (.int b), some (.ref l'), some (.ref D), v5] ∧ Same H H' ∧ ChIn K H' l' xs' ∧ l' ≠ D ∧ xs'.map (·.2) = (runN h.toNat n b c0).2 ∧ (∀ k, k ∈ (runN h.toNat n b c0).2 → 0 < k.2) ∧ IsRun H' D rs ∧ rs.map (fun r => (r.2.2.1, r.2.2.2)) = (runN h.toNat n b c0).1 ∧ (∀ r, r ∈ rs → H r.2.1 = none ∧ r.2.1 ≠ D ∧ r.2.2.2.length ≤ 40) ∧ (∀ k, k < n → (runN h.toNat k b c0).2 ≠ []) ∧ n + (sumC (runN h.toNat n b c0).2 + (1001 - (b + n)).toNat) ≤ sumC c0 + (1001 - b).toNat)
    (fun _ H' => match H' D with | some (.lst ys) => sumC (runN h.toNat ys.length b c0).2 + (1001 - (b + (ys.length : Int))).toNat | _ => 0) ?_ ?_ ?_
  · refine ⟨D1, _, [], 0, _, rfl, s02, hI2, D1D, e2, ?_, ⟨h2, fun r hr => by simp at hr, fun r hr => by simp at hr⟩, rfl, fun r hr => by simp at hr, fun k hk => by omega, by show 0 + (sumC c0 + (1001 - (b + ((0 : Nat) : Int))).toNat) ≤ _; omega⟩
    show ∀ k, k ∈ c0 → 0 < k.2
    rw [← hc0]
    exact fun k hk => zc7 hk
  · rintro σ' H4 ⟨l', xs', rs, n, v5, rfl, s4, hI4, lD, ex, pos, R, er, hr, ln, rl⟩
    have mr : (rs.map fun r => V.ref r.1).length = rs.length := List.length_map _
    have lrs : rs.length = n := by
      have := congrArg List.length er
      rw [List.length_map, zcw] at this
      exact this
    refine ⟨_, rfl, sz 0 (by decide), fun l5 H5 s5 n5 h5 => ⟨l', l5, _, rfl, rfl, SqL.of (s5 _ _ hI4.chs.at_), SqL.of h5, _, rfl, ?_⟩⟩
    cases exs : xs' with
    | nil =>
      subst exs
      refine iteF ?_
      refine ⟨_, rfl, q D H5 rs (s4.trans s5) n1 ⟨R.same s5, fun r h' => (hr r h').1, fun r h' => (hr r h').2.1, n, by rw [hc0]; exact er, by rw [hc0]; exact ex.symm, by rw [hc0]; exact ln⟩ (fun r h' => (hr r h').2.2) (by rw [lrs]; omega)⟩
    | cons x0 xt =>
      refine iteT ?_
      have ne : (runN h.toNat n b c0).2 ≠ [] := by rw [← ex, exs]; simp
      have R5 := R.same s5
      have hI5 := hI4.same s5
      refine ⟨_, rfl, _, rfl, _, rfl, _, rfl, D, _, rfl, .inl (SqL.of R5.at_), _, _, rfl, rfl, ?_⟩
      rw [mr, lrs]
      refine ⟨l', xs', h, _, rfl, hI5, by omega, fun p6 m6 D6 H6 bs6 s6 hp6 n6 nD6 mD6 h6 B6 => ?_⟩
      have R6 := R5.same s6
      have m6D : m6 ≠ D := fun z => by rw [z, R5.at_] at n6; cases n6
      have D6D : D6 ≠ D := fun z => by rw [z, R5.at_] at nD6; cases nD6
      refine ⟨p6, _, rfl, SqT.of hp6, rfl, _, _, rfl, _, _, rfl, rfl, ?_⟩
      refine ⟨_, rfl, .inl ⟨rfl, _, SqL.of R6.at_⟩, _, rfl, _, rfl, D, _, rfl, .inl (SqL.of R6.at_), _, _, rfl, rfl, ?_⟩
      rw [mr, lrs]
      refine ⟨_, rfl, sz 2 (by decide), fun p7 H7 s7 n7 h7 => ⟨D, _, _, rfl, rfl, (R6.same s7).at_, ?_, fun H8 k8 h8 => ?_⟩⟩
      · rw [mr, lrs]
        have z : (100000 : Nat) ≤ sizeLine := by decide
        omega
      have R7 := R6.same s7
      obtain ⟨hI6, e6⟩ := hI5.next s6 B6
      have hI7 := hI6.same s7
      have hI8 : ChIn K H8 D6 (zipB bs6 (behL H5 (zbH (b + n) h.toNat xs') xs')) := ⟨hI7.chs.but k8 R7.at_ D6D, hI7.len, hI7.ok, hI7.nd⟩
      have s48 : Same H H8 := (s4.trans (s5.trans (s6.trans s7))).but n1 k8
      have ew : zbH (b + n) h.toNat xs' = wkC (b + n) h.toNat (runN h.toNat n b c0).2 := by rw [zdQ, ex]
      have dn := zhs (t := b + n) hn ne pos (by rw [← ex]; exact hI4.cm)
      have R8 : IsRun H8 D (rs ++ [(p7, m6, b + n, zbH (b + n) h.toNat xs')]) := R7.app k8 h8 h7 (s7 _ _ h6) m6D fun r h' => (hr r h').2.1
      refine ⟨⟨D6, zipB bs6 (behL H5 (zbH (b + n) h.toNat xs') xs'), rs ++ [(p7, m6, b + n, zbH (b + n) h.toNat xs')], n + 1, _, rfl, s48, hI8, D6D, ?_, ?_, R8, ?_, ?_, ?_, ?_⟩, ?_⟩
      · rw [e6, ex, zaK, ew]
      · rw [zaK]
        exact fun k hk => zc7 hk
      · rw [List.map_append, er, zaK, ← ew]
        rfl
      · intro r h'
        rcases List.mem_append.mp h' with h' | h'
        · exact hr r h'
        · rw [List.mem_singleton.mp h']
          exact ⟨Same.free (s4.trans s5) n6, m6D, zkP hI4 _ _⟩
      · intro k hk
        by_cases kn : k = n
        · subst kn
          exact ne
        · exact ln k (by omega)
      · rw [zaK]
        show n + 1 + (sumC (bhC (wkC (b + n) h.toNat (runN h.toNat n b c0).2) (runN h.toNat n b c0).2) + (1001 - (b + ((n + 1 : Nat) : Int))).toNat) ≤ _
        omega
      · have l9 : ((rs ++ [(p7, m6, b + n, zbH (b + n) h.toNat xs')]).map fun r => V.ref r.1).length = n + 1 := by
          rw [List.length_map, List.length_append, lrs]
          rfl
        rw [R8.at_, R.at_]
        show sumC (runN h.toNat ((rs ++ [(p7, m6, b + n, zbH (b + n) h.toNat xs')]).map fun r => V.ref r.1).length b c0).2 + (1001 - (b + (((rs ++ [(p7, m6, b + n, zbH (b + n) h.toNat xs')]).map fun r => V.ref r.1).length : Int))).toNat < sumC (runN h.toNat (rs.map fun r => V.ref r.1).length b c0).2 + (1001 - (b + ((rs.map fun r => V.ref r.1).length : Int))).toNat
        rw [l9, mr, lrs, zaK]
        show sumC (bhC (wkC (b + n) h.toNat (runN h.toNat n b c0).2) (runN h.toNat n b c0).2) + (1001 - (b + ((n + 1 : Nat) : Int))).toNat < _
        rw [show b + ((n + 1 : Nat) : Int) = b + n + 1 by omega]
        exact dn
  · intro σ' H' Q1 Q2 hq h
    obtain ⟨v1, e1, e2, h⟩ := h
    refine ⟨v1, e1, e2, fun p H2 s n hp => ?_⟩
    obtain ⟨a, b, xs, f1, f2, f3, f4, k, f5, h⟩ := h p H2 s n hp
    exact ⟨a, b, xs, f1, f2, f3, f4, k, f5, hq _ _ h⟩
abbrev zbo (rs : List (Addr × Addr × Int × List Int)) : List (Int × List Int) := rs.map fun r => (r.2.2.1, r.2.2.2)
def zkU (K : PySem.W.Frag) : Sp := fun vs H Q _ => ∃ (D : Addr) (rs : List (Addr × Addr × Int × List Int)), vs = [.ref D] ∧ IsRun H D rs ∧ (∀ r, r ∈ rs → r.2.2.2.length ≤ 40) ∧ rs.length ≤ 1481 ∧
  ∀ d H', Same H H' → H d = none → H' d = some (.dK (dI (zcY (zbo rs) []))) → Q (.ref d) H'
theorem zhy {rs : List (Addr × Addr × Int × List Int)} {i j : Nat} {t : Int} {ws : List Int} (h1 : ∀ r, r ∈ rs → r.2.2.2.length ≤ 40) (h2 : rs.length ≤ 1481) (h3 : ws.length ≤ 40) : (dI (zc8 t (ws.take j) (zcY (zbo (rs.take i)) []))).length < sizeLine := by
  have a := zf6 (B := 40) (zbo (rs.take i)) [] fun r hr => by
    obtain ⟨q, hq, rfl⟩ := List.mem_map.mp hr
    exact h1 q (List.mem_of_mem_take hq)
  have b := zeF t (ws.take j) (zcY (zbo (rs.take i)) [])
  rw [List.length_map, List.length_take] at a
  rw [List.length_take] at b
  rw [zmp]
  have z : (100000 : Nat) ≤ sizeLine := by decide
  rw [List.length_nil, Nat.zero_add] at a
  omega
theorem zjt {α : Type} {xs : List α} {i : Nat} {x : α} (h : xs[i]? = some x) : xs.take (i + 1) = xs.take i ++ [x] := by
  rw [List.take_succ, h]
  rfl
theorem zcc : FnScope ["rows", "turns", "row", "number"] ["rows"] (zad zbh) := ⟨rfl, rfl, rfl, by decide +kernel, rfl, by decide +kernel, by decide +kernel⟩
theorem zft (D : Dfn K mg "last_turns" zbh ["rows"] f fd) (T : Txt K mg c_WaitError c_NoPiece c_NoEnd) : Cal P w K mg base "last_turns" 1 ["rows"] (zkU K) := by
  refine D.cal (D.F.ok zcc (fun vs H Q E h => ?_) (fun cdv A outer s H vs Q E hr h => ?_))
  · obtain ⟨D, rs, rfl, _⟩ := h
    rfl
  obtain ⟨D, rs, rfl, R, l40, l14, q⟩ := h
  refine ⟨_, (zae (zav (i := 1) zcc.nd rfl (Or.inl rfl) zhp)
      (zae (zc2 PassesOwn.never rfl (zaE (pv 0)) (zaD (i := 2) zcc.nd rfl (Or.inl rfl)) (zaf (zc2 PassesOwn.never rfl (zaE (zaq zao (pv 2) zab (fun _ _ => rfl))) (zaD (i := 3) zcc.nd rfl (Or.inl rfl)) (zaf (zlb hr.units1 (pv 1) (pv 3) (zaq zao (pv 2) zab (fun _ _ => rfl)) rfl)))))
      (zaf (zau (pv 1))))), ?_⟩
  refine fun d H1 s1 n1 h1 => ?_
  have mr : (rs.map fun r => V.ref r.1).length = rs.length := List.length_map _
  refine ⟨_, rfl, D, rfl, ⟨_, SqL.of (s1 _ _ R.at_)⟩, ?_⟩
  refine zdf (K := K) (a := D) (xs := rs.map fun r => V.ref r.1) (fun i σ H' => ∃ v2 v3 : Option V, σ = [some (.ref D), some (.ref d), v2, v3] ∧ Same H H' ∧ H' d = some (.dK (dI (zcY (zbo (rs.take i)) []))))
    ⟨_, _, rfl, s1, h1⟩ (fun i σ H' _ ⟨_, _, _, s, _⟩ => SqL.of (s _ _ R.at_)) ?_ ?_
  · rintro i x σ H2 hi ⟨v2, v3, rfl, s2, h2⟩
    rw [List.getElem?_map] at hi
    cases e : rs[i]? with
    | none => rw [e] at hi; cases hi
    | some r =>
      rw [e] at hi
      cases hi
      have hr := List.mem_of_getElem? e
      have er : zbo (rs.take (i + 1)) = zbo (rs.take i) ++ [(r.2.2.1, r.2.2.2)] := by
        rw [zjt e]
        exact List.map_append
      have mw : (r.2.2.2.map V.int).length = r.2.2.2.length := List.length_map _
      refine ⟨_, rfl, r.1, _, _, _, rfl, rfl, SqT.of (s2 _ _ (R.row r hr)), rfl, r.2.1, rfl, ⟨_, SqL.of (s2 _ _ (R.num r hr))⟩, ?_⟩
      refine zdf (K := K) (a := r.2.1) (xs := r.2.2.2.map V.int) (fun j σ H' => ∃ v3 : Option V, σ = [some (.ref D), some (.ref d), some (.ref r.1), v3] ∧ Same H H' ∧ H' d = some (.dK (dI (zc8 r.2.2.1 (r.2.2.2.take j) (zcY (zbo (rs.take i)) [])))))
        ⟨_, rfl, s2, h2⟩ (fun j σ H' _ ⟨_, _, s, _⟩ => SqL.of (s _ _ (R.num r hr))) ?_ ?_
      · rintro j y σ H3 hj ⟨v3, rfl, s3, h3⟩
        rw [List.getElem?_map] at hj
        cases ej : r.2.2.2[j]? with
        | none => rw [ej] at hj; cases hj
        | some n =>
          rw [ej] at hj
          cases hj
          refine ⟨_, rfl, r.1, _, _, _, rfl, rfl, SqT.of (s3 _ _ (R.row r hr)), rfl, _, rfl, _, rfl, d, _, rfl, DPut.k (k := .inl n) h3 (zhy l40 l14 (l40 r hr)), ?_⟩
          refine ⟨_, rfl, s3.but n1 (But.upd _ _ _), ?_⟩
          rw [zai, zkK, zjt ej, zfb]
      · rintro σ H3 ⟨v3, rfl, s3, h3⟩
        rw [mw, List.take_length] at h3
        refine ⟨_, _, rfl, s3, ?_⟩
        rw [h3, er, zfc]
  · rintro σ H2 ⟨v2, v3, rfl, s2, h2⟩
    rw [mr, List.take_length] at h2
    exact ⟨_, rfl, q d H2 s2 n1 h2⟩
def zmD (K : PySem.W.Frag) : Sp := fun vs H Q _ => ∃ x m b : Int, vs = [.int x, .int m, .int b] ∧ 0 ≤ m ∧ m ≤ 12 ∧ 0 ≤ b ∧ b ≤ 100 ∧ ∀ l xs H', Same H H' → H l = none → ChIn K H' l xs → (∀ q, q ∈ xs → q.2.1.n < 97) → Q (.ref l) H'
theorem zaJ : FnScope ["_law_cell_here", "_law_many", "_law_begin", "_law_first", "_law_step", "_law_chores_here", "_law_k", "_law_number", "_law_own", "_law_came", "_law_claim"] ["_law_cell_here", "_law_many", "_law_begin"] (zad zbj) := ⟨rfl, rfl, rfl, by decide +kernel, rfl, by decide +kernel, by decide +kernel⟩
theorem zfu (D : Dfn K mg "_law_chores" zbj ["_law_cell_here", "_law_many", "_law_begin"] f fd) (T : Txt K mg c_WaitError c_NoPiece c_NoEnd) (zaX : Cal P w K mg base "_law_mix" 1 ["_law_cell_here", "_law_k"] zge) (zam : Cal P w K mg base "_law_draw" 2 ["_law_cell_here", "_law_k", "_law_many"] zdV) (zcu : Cal P w K mg base "_law_weight" 3 ["_law_cell_here", "_law_k"] zhv) : Cal P w K mg base "_law_chores" 4 ["_law_cell_here", "_law_many", "_law_begin"] (zmD K) := by
  refine D.cal (D.F.ok zaJ (fun vs H Q E h => ?_) (fun cdv A outer s H vs Q E hr h => ?_))
  · obtain ⟨x, m, b, rfl, _⟩ := h
    rfl
  obtain ⟨x, m, b, rfl, m0, m1, b0, b1, q⟩ := h
  refine ⟨_, (zae (zav (i := 3) zaJ.nd rfl (Or.inl rfl) (zal zam (hr.mono (by decide)) rfl (zaa (pv 0) (zaa zab (zaa zab zac)))))
      (zae (zav (i := 4) zaJ.nd rfl (Or.inl rfl) (zaq zaZ (zaz (pai (zag zab (zag zab (zag zab (zag zab zbw)))))) (zal zam (hr.mono (by decide)) rfl (zaa (pv 0) (zaa zab (zaa zab zac)))) (fun _ _ => rfl)))
      (zae (zav (i := 5) zaJ.nd rfl (Or.inl rfl) (zaz zac))
      (zae (zc2 PassesOwn.never rfl (zfE rfl T.zjn (zaa (pv 1) zac)) (zaD (i := 6) zaJ.nd rfl (Or.inl rfl)) (zae (zav (i := 7) zaJ.nd rfl (Or.inl rfl) (zat zcU (zat za2 (pv 3) (zat zb3 (pv 4) (pv 6))) zab))
      (zae (zav (i := 8) zaJ.nd rfl (Or.inl rfl) (zal zaX (hr.mono (by decide)) rfl (zaa (pv 0) (zaa (zat za2 zab (pv 6)) zac))))
      (zfn (zbb (zap zk4 (pv 6) zab (zaw _)) (zaf (zav (i := 8) zaJ.nd rfl (Or.inl rfl) (zal zaX (hr.mono (by decide)) rfl (zaa (zat za2 (pv 8) (zal zam (hr.mono (by decide)) rfl (zaa (pv 0) (zaa (zat za2 zab (pv 6)) (zaa (zat zg8 zab zab) zac))))) (zaa (pv 6) zac))))) zaO)
      (zae (zav (i := 9) zaJ.nd rfl (Or.inl rfl) (zax (zfG rfl) rfl T.zmz zkx (zaa zab (zaa (zat ze1 (pv 2) (zal zam (hr.mono (by decide)) rfl (zaa (pv 8) (zaa zab (zaa (zaq zaZ (zaz (zaa zab (zaa zab (zaa (zat za2 (pv 2) zab) zac)))) (zal zam (hr.mono (by decide)) rfl (zaa (pv 8) (zaa zab (zaa zab zac)))) (fun _ _ => rfl)) zac))))) zac))))
      (zfn (zbb (zap zcA (zal zam (hr.mono (by decide)) rfl (zaa (pv 8) (zaa zab (zaa zab zac)))) zab (zaw _)) (zaf (zav (i := 9) zaJ.nd rfl (Or.inl rfl) (zat za2 (pv 2) (zal zam (hr.mono (by decide)) rfl (zaa (pv 8) (zaa zab (zaa (zaq zaZ (zaz (zaa zab (zaa zab (zaa zab zac)))) (zal zam (hr.mono (by decide)) rfl (zaa (pv 8) (zaa zab (zaa zab zac)))) (fun _ _ => rfl)) zac))))))) zaO)
      (zae (zav (i := 10) zaJ.nd rfl (Or.inl rfl) (zaB (pai (zag (pv 7) (zag (zal zcu (hr.mono (by decide)) rfl (zaa (pv 8) (zaa zab zac))) (zag (zal zcu (hr.mono (by decide)) rfl (zaa (pv 8) (zaa zab zac))) (zag (pv 9) zbw)))))))
      (zaf (zcZ (zgz PySem.F.plainAttrs_list PySem.F.slot_list_append PySem.F.type_list_append zdi (pv 5) (zaa (zaB (zaa (pv 10) (zaa (zal zam (hr.mono (by decide)) rfl (zaa (pv 8) (zaa zab (zaa zab zac)))) zac))) zac)))))))))))
      (zaf (zau (pv 5))))))), ?_⟩
  refine ⟨_, rfl, x, _, _, rfl, by decide, by decide, fun fi f0 f1 => ?_⟩
  refine ⟨sz 4 (by decide), fun l1 H1 s1 n1 h1 => ⟨_, rfl, x, _, _, rfl, by decide, by decide, fun r1 r10 r11 => ?_⟩⟩
  obtain ⟨v1, e1, z1⟩ := at_4 (.int 1) (.int 2) (.int 7) (.int 89) r10 r11
  have z1 : ∃ st : Int, v1 = .int st ∧ (st = 1 ∨ st = 2 ∨ st = 7 ∨ st = 89) := by
    rcases z1 with rfl | rfl | rfl | rfl
    · exact ⟨_, rfl, .inl rfl⟩
    · exact ⟨_, rfl, .inr (.inl rfl)⟩
    · exact ⟨_, rfl, .inr (.inr (.inl rfl))⟩
    · exact ⟨_, rfl, .inr (.inr (.inr rfl))⟩
  obtain ⟨st, rfl, hst⟩ := z1
  refine ⟨l1, _, _, _, rfl, rfl, SqL.of h1, e1, ?_⟩
  refine ⟨sz 0 (by decide), fun lc H2 s2 n2 h2 => ?_⟩
  have nlc : H lc = none := Same.free s1 n2
  refine ⟨_, rfl, _, rfl, by omega, by omega, ?_⟩
  refine zfF (fun i σ H5 => ∃ (v6 v7 v8 v9 v10 : Option V) (xs : List (Addr × Cl × Int)), σ = [some (.int x), some (.int m), some (.int b), some (.int fi), some (.int st), some (.ref lc), v6, v7, v8, v9, v10] ∧ Same H H5 ∧ IsChs K H5 lc xs ∧ (∀ q, q ∈ xs → ChOk 1000 q.2) ∧ xs.map (·.2.1.n) = (List.range i).map fun (j : Nat) => (fi + st * (j : Int)) % 97)
    ⟨_, _, _, _, _, [], rfl, s1.trans s2, ⟨h2, fun q hq => by simp at hq⟩, fun q hq => by simp at hq, rfl⟩ ?_ ?_
  · rintro i σ H5 hi ⟨v6, v7, v8, v9, v10, xs, rfl, s5, hx, ox, en⟩
    have xl : xs.length = i := by
      have := congrArg List.length en
      simpa using this
    refine ⟨_, rfl, _, rfl, _, rfl, _, _, rfl, rfl, .inl ⟨by omega, by omega⟩, _, _, rfl, rfl, _, _, rfl, rfl, (by show (0 : Int) < _; decide), ?_⟩
    have nn : 0 ≤ (fi + st * (0 + (i : Int))) % 97 := Int.emod_nonneg _ (by decide)
    have ne : (fi + st * (0 + (i : Int))) % 97 = (fi + st * (i : Int)) % 97 := by rw [Int.zero_add]
    dsimp only
    generalize (fi + st * (0 + (i : Int))) % 97 = num at nn ne
    refine ⟨_, rfl, _, rfl, _, _, rfl, rfl, x, _, rfl, by show 0 ≤ 100 + (0 + (i : Int)); omega, fun o o0 => ?_⟩
    refine ⟨fun σ' H' => ∃ own : Int, σ' = [some (.int x), some (.int m), some (.int b), some (.int fi), some (.int st), some (.ref lc), some (.int (0 + (i : Int))), some (.int num), some (.int own), v9, v10] ∧ H' = H5, ?_, ?_⟩
    · refine ⟨_, rfl, _, _, rfl, rfl, _, rfl, ?_⟩
      refine ite2 (fun c => ?_) (fun c => ⟨o, rfl, rfl⟩)
      refine ⟨_, rfl, _, rfl, _, rfl, _, _, rfl, rfl, _, _, rfl, rfl, ⟨by decide, by decide, by decide⟩, x, _, _, rfl, by show 0 ≤ 5 + (0 + (i : Int)); omega, by show (0 : Int) < _; decide, fun r2 r20 r21 => ⟨_, _, rfl, rfl, _, rfl, _, _, rfl, by show 0 ≤ 0 + (i : Int); omega, fun o2 _ => ⟨o2, rfl, rfl⟩⟩⟩
    rintro σ' H' ⟨own, rfl, e5⟩
    rw [e5]
    clear e5 H'
    refine ⟨_, rfl, _, rfl, _, rfl, _, _, rfl, rfl, sz 3 (by decide), fun l6 H6 s6 n6 h6 => ⟨_, rfl, own, _, _, rfl, by decide, by decide, fun r6 r60 r61 => ?_⟩⟩
    obtain ⟨v6', e6, z6⟩ := at_3 (.int 4) (.int 30) (.int (b + 1)) r60 r61
    have z6 : ∃ w : Int, v6' = .int w ∧ 0 < w := by
      rcases z6 with rfl | rfl | rfl
      · exact ⟨_, rfl, by decide⟩
      · exact ⟨_, rfl, by decide⟩
      · exact ⟨_, rfl, by omega⟩
    obtain ⟨w6, rfl, w60⟩ := z6
    refine ⟨l6, _, _, _, rfl, rfl, SqL.of h6, e6, own, _, w6, rfl, by decide, w60, fun r7 r70 r71 => ⟨_, _, rfl, rfl, _, _, rfl, ?_⟩⟩
    refine ⟨fun σ' H' => ∃ came : Int, σ' = [some (.int x), some (.int m), some (.int b), some (.int fi), some (.int st), some (.ref lc), some (.int (0 + (i : Int))), some (.int num), some (.int own), some (.int came), v10] ∧ Same H5 H' ∧ 0 ≤ came ∧ came ≤ 1000, ?_, ?_⟩
    · refine ⟨_, rfl, own, _, _, rfl, by decide, by decide, fun r8 r80 r81 => ⟨rfl, _, rfl, ?_⟩⟩
      refine ite2 (fun c => ?_) (fun c => ⟨_, rfl, s6, by split <;> omega, by split <;> omega⟩)
      refine ⟨_, rfl, _, rfl, sz 3 (by decide), fun l9 H9 s9 n9 h9 => ⟨_, rfl, own, _, _, rfl, by decide, by decide, fun r9 r90 r91 => ?_⟩⟩
      obtain ⟨v9', e9, z9⟩ := at_3 (.int 8) (.int 8) (.int 401) r90 r91
      have z9 : ∃ w : Int, v9' = .int w ∧ 0 < w ∧ w ≤ 401 := by
        rcases z9 with rfl | rfl | rfl
        · exact ⟨_, rfl, by decide, by decide⟩
        · exact ⟨_, rfl, by decide, by decide⟩
        · exact ⟨_, rfl, by decide, by decide⟩
      obtain ⟨w9, rfl, w90, w91⟩ := z9
      exact ⟨l9, _, _, _, rfl, rfl, SqL.of h9, e9, own, _, w9, rfl, by decide, w90, fun r10 r100 r101 => ⟨_, _, rfl, rfl, _, rfl, s6.trans s9, by omega, by omega⟩⟩
    clear h6 e6 n6 s6
    rintro σ' H' ⟨came, rfl, s6, c0, c1⟩
    refine ⟨_, rfl, _, rfl, own, _, rfl, by decide, fun pw Ha t d sa wa => ⟨_, rfl, own, _, rfl, by decide, fun pz Hb t2 d2 sb wb => ⟨_, rfl, sz 4 (by decide), fun pc Hc sc nc hc => ?_⟩⟩⟩
    have s5c := s6.trans (sa.trans (sb.trans sc))
    have hxc := hx.same s5c
    refine ⟨_, rfl, .inl ⟨rfl, _, SqL.of hxc.at_⟩, _, rfl, _, rfl, own, _, _, rfl, by decide, by decide, fun lf lf0 lf1 => ⟨sz 2 (by decide), fun p Hd sd nd hd => ?_⟩⟩
    have hxd := hxc.same sd
    refine ⟨lc, _, _, rfl, rfl, hxd.at_, zaA (by rw [List.length_map]; omega), fun He ke he => ?_⟩
    have wa' := (wa.same sb).same (sc.trans sd)
    have wb' := wb.same (sc.trans sd)
    have hy : IsCh K Hd p (⟨num, t, d, t2, d2, came⟩, lf) := ⟨pc, hd, ⟨pw, pz, sd _ _ hc, wa'.at_, wb'.at_⟩⟩
    have oy : ChOk 1000 ((⟨num, t, d, t2, d2, came⟩ : Cl), lf) := ⟨⟨nn, wa'.t0, wa'.t1, wa'.b0, wa'.b1, wb'.t0, wb'.t1, wb'.b0, wb'.b1, c0, by show came ≤ _; omega⟩, lf0, by show lf ≤ 12; omega, c1⟩
    refine ⟨_, _, _, _, _, xs ++ [(p, (⟨num, t, d, t2, d2, came⟩, lf))], rfl, (s5.trans (s5c.trans sd)).but nlc ke, ⟨by rw [he, List.map_append]; rfl, fun q' hq => ?_⟩, fun q' hq => ?_, ?_⟩
    · rcases List.mem_append.mp hq with hq | hq
      · exact (hxd.ch q' hq).but ke hxd.at_
      · rw [List.mem_singleton.mp hq]
        exact hy.but ke hxd.at_
    · rcases List.mem_append.mp hq with hq | hq
      · exact ox q' hq
      · rw [List.mem_singleton.mp hq]
        exact oy
    · rw [List.map_append, en, List.range_succ, List.map_append]
      congr 1
      show [num] = [(fi + st * (i : Int)) % 97]
      rw [ne]
  · rintro σ H5 ⟨v6, v7, v8, v9, v10, xs, rfl, s5, hx, ox, en⟩
    have xl : xs.length = m.toNat := by
      have := congrArg List.length en
      simpa using this
    refine ⟨_, rfl, q lc xs H5 s5 nlc ⟨hx, by omega, ox, ?_⟩ (fun q' hq' => ?_)⟩
    rotate_left
    · have : q'.2.1.n ∈ xs.map (·.2.1.n) := List.mem_map.mpr ⟨q', hq', rfl⟩
      rw [en] at this
      obtain ⟨j, _, e⟩ := List.mem_map.mp this
      rw [← e]
      exact Int.emod_lt_of_pos _ (by decide)
    rw [en, List.nodup_iff_pairwise_ne, List.pairwise_map]
    refine List.Pairwise.imp_of_mem (fun {i j} hi hj ne z => ne ?_) (List.nodup_iff_pairwise_ne.mp List.nodup_range)
    have hi := List.mem_range.mp hi
    have hj := List.mem_range.mp hj
    rcases hst with rfl | rfl | rfl | rfl <;> omega
def zkV (K : PySem.W.Frag) : Sp := fun vs H Q _ => ∃ x m : Int, vs = [.int x, .int m] ∧ 0 < m ∧ m ≤ 13 ∧ ∀ p l xs h b H', Same H H' → H' p = some (.tup [.ref l, .int h, .int b]) → H l = none → ChIn K H' l xs → 0 < h → 0 ≤ b → b ≤ 100 → (∀ q, q ∈ xs → q.2.1.n < 97) → Q (.ref p) H'
theorem zcO : FnScope ["_law_cell_here", "_law_most", "_law_begin", "_law_many", "_law_hands"] ["_law_cell_here", "_law_most"] (zad zbT) := ⟨rfl, rfl, rfl, by decide +kernel, rfl, by decide +kernel, by decide +kernel⟩
theorem zgS (D : Dfn K mg "_law_case" zbT ["_law_cell_here", "_law_most"] f fd) (T : Txt K mg c_WaitError c_NoPiece c_NoEnd) (zam : Cal P w K mg base "_law_draw" 2 ["_law_cell_here", "_law_k", "_law_many"] zdV) (zdc : Cal P w K mg base "_law_chores" 4 ["_law_cell_here", "_law_many", "_law_begin"] (zmD K)) : Cal P w K mg base "_law_case" 5 ["_law_cell_here", "_law_most"] (zkV K) := by
  refine D.cal (D.F.ok zcO (fun vs H Q E h => ?_) (fun cdv A outer s H vs Q E hr h => ?_))
  · obtain ⟨x, m, rfl, _⟩ := h
    rfl
  obtain ⟨x, m, rfl, m0, m1, q⟩ := h
  refine ⟨_, (zae (zav (i := 2) zcO.nd rfl (Or.inl rfl) (zaq zaZ (zaz (zaa zab (zaa zab (zaa zab zac)))) (zal zam (hr.mono (by decide)) rfl (zaa (pv 0) (zaa zab (zaa zab zac)))) (fun _ _ => rfl)))
      (zae (zav (i := 3) zcO.nd rfl (Or.inl rfl) (zal zam (hr.mono (by decide)) rfl (zaa (pv 0) (zaa zab (zaa (zaq zaZ (zaz (zaa zab (zaa zab (zaa (pv 1) zac)))) (zat zk3 (zal zam (hr.mono (by decide)) rfl (zaa (pv 0) (zaa zab (zaa zab zac)))) zab) (fun _ _ => rfl)) zac)))))
      (zae (zav (i := 4) zcO.nd rfl (Or.inl rfl) (zat za2 zab (zal zam (hr.mono (by decide)) rfl (zaa (pv 0) (zaa zab (zaa (zaq zaZ (zaz (zaa zab (zaa zab (zaa zab zac)))) (zal zam (hr.mono (by decide)) rfl (zaa (pv 0) (zaa zab (zaa zab zac)))) (fun _ _ => rfl)) zac))))))
      (zaf (zau (zaB (zaa (zal zdc (hr.mono (by decide)) rfl (zaa (pv 0) (zaa (pv 3) (zaa (pv 2) zac)))) (zaa (pv 4) (zaa (pv 2) zac))))))))), ?_⟩
  refine ⟨sz 3 (by decide), fun l1 H1 s1 n1 h1 => ⟨_, rfl, x, _, _, rfl, by decide, by decide, fun r1 r10 r11 => ?_⟩⟩
  obtain ⟨v1, e1, z1⟩ := at_3 (.int 0) (.int 5) (.int 100) r10 r11
  have z1 : ∃ b : Int, v1 = .int b ∧ 0 ≤ b ∧ b ≤ 100 := by
    rcases z1 with rfl | rfl | rfl
    · exact ⟨_, rfl, by decide, by decide⟩
    · exact ⟨_, rfl, by decide, by decide⟩
    · exact ⟨_, rfl, by decide, by decide⟩
  obtain ⟨b, rfl, b0, b1⟩ := z1
  refine ⟨l1, _, _, _, rfl, rfl, SqL.of h1, e1, ?_⟩
  refine ⟨_, rfl, _, rfl, sz 3 (by decide), fun l2 H2 s2 n2 h2 => ⟨_, rfl, x, _, _, rfl, by decide, by decide, fun r2 r20 r21 => ⟨_, _, rfl, rfl, ⟨by decide, by decide⟩, ?_⟩⟩⟩
  obtain ⟨v2, e2, z2⟩ := at_3 (.int 7) (.int 7) (.int m) (r := r2 / 7) (by omega) (by omega)
  have z2 : ∃ k : Int, v2 = .int k ∧ 0 < k ∧ k ≤ 13 := by
    rcases z2 with rfl | rfl | rfl
    · exact ⟨_, rfl, by decide, by decide⟩
    · exact ⟨_, rfl, by decide, by decide⟩
    · exact ⟨_, rfl, m0, m1⟩
  obtain ⟨k, rfl, k0, k1⟩ := z2
  refine ⟨l2, _, _, _, rfl, rfl, SqL.of h2, e2, x, _, k, rfl, by decide, k0, fun many y0 y1 => ?_⟩
  refine ⟨_, rfl, sz 3 (by decide), fun l3 H3 s3 n3 h3 => ⟨_, rfl, x, _, _, rfl, by decide, by decide, fun r3 r30 r31 => ?_⟩⟩
  obtain ⟨v3, e3, z3⟩ := at_3 (.int 2) (.int 3) (.int 6) r30 r31
  have z3 : ∃ k : Int, v3 = .int k ∧ 0 < k := by
    rcases z3 with rfl | rfl | rfl
    · exact ⟨_, rfl, by decide⟩
    · exact ⟨_, rfl, by decide⟩
    · exact ⟨_, rfl, by decide⟩
  obtain ⟨k3, rfl, k30⟩ := z3
  refine ⟨l3, _, _, _, rfl, rfl, SqL.of h3, e3, x, _, k3, rfl, by decide, k30, fun h h0 h1 => ⟨_, _, rfl, rfl, ?_⟩⟩
  refine ⟨_, rfl, _, rfl, _, rfl, x, many, b, rfl, y0, by omega, b0, b1, fun l xs H4 s4 n4 hI h97 => ⟨_, rfl, _, rfl, sz 3 (by decide), fun p H5 s5 n5 h5 => ?_⟩⟩
  have s03 := s1.trans (s2.trans s3)
  exact q p l xs (1 + h) b H5 (s03.trans (s4.trans s5)) h5 (Same.free s03 n4) (hI.same s5) (by omega) b0 b1 h97
structure LatOf (H : Hp) (d : Addr) (h : Nat) (b : Int) (c : Ch) (L : List (Int × Int)) : Prop where
  at_ : H d = some (.dK (dI L))
  ex : ∃ N, L = zcY (runN h N b (bhC [] c)).1 [] ∧ (runN h N b (bhC [] c)).2 = [] ∧ ∀ k, k < N → (runN h k b (bhC [] c)).2 ≠ []
  len : (dI L).length < sizeLine
theorem RunOf.lat {H0 H H' : Hp} {h : Nat} {b : Int} {c : Ch} {D d : Addr} {rs : List (Addr × Addr × Int × List Int)} (R : RunOf H0 H h b c D rs) (l40 : ∀ r, r ∈ rs → r.2.2.2.length ≤ 40) (l14 : rs.length ≤ 1481) (hd : H' d = some (.dK (dI (zcY (zbo rs) [])))) : LatOf H' d h b c (zcY (zbo rs) []) := by
  obtain ⟨n, a1, a2, a3⟩ := R.eq
  have hL := zhy (i := rs.length) (j := 0) (t := 0) (ws := []) l40 l14 (by decide)
  rw [List.take_length] at hL
  exact ⟨hd, ⟨n, by rw [← a1], a2, a3⟩, hL⟩
theorem LatOf.val {H : Hp} {d : Addr} {h : Nat} {b : Int} {c : Ch} {L : List (Int × Int)} (l : LatOf H d h b c L) {k : Cl × Int} (hk : k ∈ c) (pos : 0 < k.2) : ∃ u, valI L k.1.n = some u := by
  obtain ⟨N, e, n, _⟩ := l.ex
  have hm : k ∈ bhC [] c := by
    rw [zfr]
    exact List.mem_filter.mpr ⟨hk, decide_eq_true pos⟩
  obtain ⟨i, _, i2, i3⟩ := zeG (h := h) (b := b) (d := bhC [] c) (j := k.1.n) N 0 (List.mem_map.mpr ⟨k, hm, rfl⟩) (fun k hk => zc7 hk) (by rw [Nat.zero_add]; exact n)
  obtain ⟨u, h1, _⟩ := zdl (L := []) (zjh N).1 (.inr ⟨_, zek (show i < N by omega), rfl, i3⟩)
  exact ⟨u, by rw [e]; exact h1⟩
def zmE (K : PySem.W.Frag) (cP tT : Addr) : Sp := fun vs H Q E => ∃ (l : Addr) (xs : List (Addr × Cl × Int)) (h b : Int) (x : V), vs = [.ref l, .int h, .int b, x] ∧ ChIn K H l xs ∧ 0 < h ∧ 0 ≤ b ∧ b ≤ 1000 ∧ H tT = some (.tbl zcV lamQ) ∧
  ((∃ k, k ∈ xs ∧ 0 < k.2.2 ∧ x = .int k.2.1.n ∧ ∀ D D0 H' rs u, Same H H' → H D = none → RunOf H H' h.toNat b (xs.map (·.2)) D0 rs → (∀ r, r ∈ rs → r.2.2.2.length ≤ 40) → rs.length ≤ 1481 → valI (zcY (zbo rs) []) k.2.1.n = some u → (∀ r, r ∈ rs → r.2.1 ≠ D) → IsRun H' D (rs.filter fun r => decide (r.2.2.1 ≤ u)) → Q (.ref D) H') ∨
   (NoPc K H xs x ∧ ∀ a H', Same H H' → Told K H' a cP "number" x → E (.ref cP) (some a) H'))
theorem zcy : FnScope ["chores", "hands", "begin", "number", "rows", "latest"] ["chores", "hands", "begin", "number"] (zad za8) := ⟨rfl, rfl, rfl, by decide +kernel, rfl, by decide +kernel, by decide +kernel⟩
theorem zeV (D : Dfn K mg "witness_run" za8 ["chores", "hands", "begin", "number"] f fd) (T : Txt K mg c_WaitError c_NoPiece c_NoEnd) (zfv : CalD P w K mg base "run_of" 10 ["chores", "hands", "begin", "real"] (zmC K tT)) (zcP : Cal1 P w K mg base "check_piece" 4 ["chores", "number"] (zkQ K c_NoPiece)) (zdd : Cal P w K mg base "last_turns" 1 ["rows"] (zkU K)) : Cal1 P w K mg base "witness_run" 12 ["chores", "hands", "begin", "number"] (zmE K c_NoPiece tT) := by
  refine D.cal1 (D.F.ok1 zcy (fun vs H Q E h => ?_) (fun cdv A outer s H vs Q E hr h => ?_))
  · obtain ⟨l, xs, h, b, x, rfl, _⟩ := h
    rfl
  obtain ⟨l, xs, h, b, x, rfl, hI, h0, b0, b1, hT, h⟩ := h
  refine ⟨_, (zae (zcZ (ziV zcP zlk (hr.mono (by decide)) rfl (zaa (pv 0) (zaa (pv 3) zac))))
      (zae (zav (i := 4) zcy.nd rfl (Or.inl rfl) (zly zfv (hr.mono (by decide)) rfl (zaa (pv 0) (zaa (pv 1) (zaa (pv 2) zac)))))
      (zae (zav (i := 5) zcy.nd rfl (Or.inr rfl) (zla hr.units1 (zal zdd (hr.mono (by decide)) rfl (zaa (pv 4) zac)) (pv 3) (fun _ _ => rfl)))
      (zaf (zau (zcv (N := ["row", "latest"]) (js := [5]) rfl (CompScope.of rfl rfl rfl rfl rfl (by decide +kernel) rfl rfl rfl rfl) (zaE (pv 4)) (fun _ _ _ _ _ => (zdF (zap zit (zaq (r := rIxT K) zao (pv 0) zab (fun _ _ => rfl)) (pv 1) (zaw _)))) (fun _ _ _ _ _ => (pv 0)))))))), ?_⟩
  rcases h with ⟨k, hk, p, rfl, q⟩ | ⟨no, qE⟩
  · refine ⟨_, rfl, _, rfl, l, xs, _, rfl, hI, .inl ⟨k, hk, p, rfl, fun H1 s1 => ?_⟩⟩
    refine ⟨_, rfl, _, rfl, _, rfl, l, xs, h, b, rfl, hI.same s1, h0, b0, b1, s1 _ _ hT, fun D0 H2 rs s2 nD0 R l40 l14 => ?_⟩
    refine ⟨_, rfl, D0, rs, rfl, R.run, l40, l14, fun d H3 s3 nd hd => ?_⟩
    obtain ⟨u, hu⟩ := (R.lat l40 l14 hd).val (List.mem_map.mpr ⟨k, hk, rfl⟩) p
    have g := zmq (.inl hd) k.2.1.n
    rw [hu] at g
    refine ⟨_, rfl, d, _, rfl, g, ?_⟩
    have R3 := R.run.same s3
    have mr : (rs.map fun r => V.ref r.1).length = rs.length := List.length_map _
    have big : (rs.map fun r => V.ref r.1).length < sizeLine := by
      rw [mr]
      have z : (100000 : Nat) ≤ sizeLine := by decide
      omega
    refine ⟨_, rfl, D0, rfl, ⟨_, SqL.of R3.at_⟩, ?_⟩
    refine zbg (xs := rs.map fun r => V.ref r.1) (tak rs fun r => decide (r.2.2.1 ≤ u)) (itm rs fun r => V.ref r.1) (SqL.of R3.at_) ?_ ?_ big (fun D H4 s4 nD hD => ?_)
    · intro i y Hh Q' hi sh q'
      rw [List.getElem?_map] at hi
      cases e : rs[i]? with
      | none => rw [e] at hi; cases hi
      | some r =>
        rw [e] at hi
        cases hi
        have z := q' Hh (Same.refl _)
        unfold tak at z
        rw [e] at z
        exact ⟨_, rfl, r.1, _, _, _, rfl, rfl, SqT.of (sh _ _ (R3.row r (List.mem_of_getElem? e))), rfl, _, rfl, _, _, rfl, rfl, _, rfl, z⟩
    · intro i y Hh Q' hi _ sh q'
      rw [List.getElem?_map] at hi
      cases e : rs[i]? with
      | none => rw [e] at hi; cases hi
      | some r =>
        rw [e] at hi
        cases hi
        have z := q' Hh (Same.refl _)
        unfold itm at z
        rw [e] at z
        exact ⟨_, rfl, z⟩
    rw [mr, zcj] at hD
    have s24 := s3.trans s4
    have R4 : RunOf H H4 h.toNat b (xs.map (·.2)) D0 rs := ⟨R.run.same s24, fun r hr => Same.free s1 (R.new r hr), R.ne, R.eq⟩
    refine q D D0 H4 rs u (s1.trans (s2.trans s24)) (Same.free (s1.trans (s2.trans s3)) nD) R4 l40 l14 hu (fun r hr z => ?_) (R4.run.cut hD)
    have := R3.num r hr
    rw [z, nD] at this
    cases this
  · exact ⟨_, rfl, _, rfl, l, xs, _, rfl, hI, .inr ⟨no, qE⟩⟩
def wh : V → Int → Int → Bool
  | .int i, lo, hi => decide (lo ≤ i) && decide (i ≤ hi)
  | _, _, _ => false
theorem zcQ {c_WaitError c_NoPiece c_NoEnd : Addr} {H : Hp} {x : V} {lo hi : Int} (T : Txt K mg c_WaitError c_NoPiece c_NoEnd) (fx : zaM x = true) :
    (∃ i, x = .int i ∧ wh x lo hi = (decide (lo ≤ i) && decide (i ≤ hi))) ∨ (zgb K H x ∧ wh x lo hi = false) := by
  cases x with
  | non => exact .inr ⟨⟨_, .non, .inr ⟨T.q_NoneType_bool, T.q_NoneType_int⟩⟩, rfl⟩
  | bl b => exact .inr ⟨⟨_, .bl b, .inl T.za9⟩, rfl⟩
  | str z => exact .inr ⟨⟨_, .str z, .inr ⟨T.zcf, T.zco⟩⟩, rfl⟩
  | int i => exact .inl ⟨i, rfl, rfl⟩
  | _ => exact absurd (show false = true from fx) Bool.false_ne_true
theorem zkl {c_WaitError c_NoPiece c_NoEnd : Addr} {H : Hp} {x : V} {lo hi : Int} {Q : VK} (T : Txt K mg c_WaitError c_NoPiece c_NoEnd) (fx : zaM x = true) (q : Q (.bl (wh x lo hi)) H) :
    (∃ i, x = .int i ∧ Q (.bl (decide (lo ≤ i) && decide (i ≤ hi))) H) ∨ (zgb K H x ∧ Q (.bl false) H) := by
  cases x with
  | non => exact .inr ⟨⟨_, .non, .inr ⟨T.q_NoneType_bool, T.q_NoneType_int⟩⟩, q⟩
  | bl b => exact .inr ⟨⟨_, .bl b, .inl T.za9⟩, q⟩
  | str z => exact .inr ⟨⟨_, .str z, .inr ⟨T.zcf, T.zco⟩⟩, q⟩
  | int i => exact .inl ⟨i, rfl, q⟩
  | _ => exact absurd (show false = true from fx) Bool.false_ne_true
def NotL (K : PySem.W.Frag) (H : Hp) (v : V) : Prop := ∃ t, TyOf K H v t ∧ PySem.W.kitOne K t (.type "list") = some false
def NotT (K : PySem.W.Frag) (H : Hp) (v : V) : Prop := ∃ t, TyOf K H v t ∧ PySem.W.kitOne K t (.type "tuple") = some false
theorem NotL.same {H H' : Hp} {v : V} (s : Same H H') (h : NotL K H v) : NotL K H' v := let ⟨t, a, b⟩ := h; ⟨t, a.same s, b⟩
theorem NotT.same {H H' : Hp} {v : V} (s : Same H H') (h : NotT K H v) : NotT K H' v := let ⟨t, a, b⟩ := h; ⟨t, a.same s, b⟩
def okN (ys : List V) (ws : List Int) : Bool := decide (ys.length = ws.length) && (List.range ys.length).all fun j => wh (ys.getD j .non) (ws.getD j 0) (ws.getD j 0)
def zgg (K : PySem.W.Frag) (H : Hp) (y : V) (ws : List Int) (r : Bool) : Prop :=
  (NotL K H y ∧ r = false) ∨ ∃ m ys, y = .ref m ∧ H m = some (.lst ys) ∧ ys.length ≤ 1000 ∧ (ys.length = ws.length → ys.all zaM = true) ∧ r = okN ys ws
theorem zgg.same {H H' : Hp} {y : V} {ws : List Int} {r : Bool} (s : Same H H') (h : zgg K H y ws r) : zgg K H' y ws r :=
  h.imp (fun ⟨a, b⟩ => ⟨a.same s, b⟩) fun ⟨m, ys, e, a, b, c, d⟩ => ⟨m, ys, e, s _ _ a, b, c, d⟩
def zgT (K : PySem.W.Frag) (H : Hp) (v : V) (t : Int) (ws : List Int) (r : Bool) : Prop :=
  (NotT K H v ∧ r = false) ∨ (∃ p xs, v = .ref p ∧ H p = some (.tup xs) ∧ xs.length ≠ 2 ∧ r = false) ∨
    ∃ p x y, v = .ref p ∧ H p = some (.tup [x, y]) ∧ zaM x = true ∧ ((wh x t t = false ∧ r = false) ∨ (wh x t t = true ∧ zgg K H y ws r))
theorem zgT.same {H H' : Hp} {v : V} {t : Int} {ws : List Int} {r : Bool} (s : Same H H') (h : zgT K H v t ws r) : zgT K H' v t ws r :=
  h.imp (fun ⟨a, b⟩ => ⟨a.same s, b⟩) fun h => h.imp (fun ⟨p, xs, e, a, b⟩ => ⟨p, xs, e, s _ _ a, b⟩) fun ⟨p, x, y, e, a, b, c⟩ => ⟨p, x, y, e, s _ _ a, b, c.imp id fun ⟨c, d⟩ => ⟨c, d.same s⟩⟩
def zkW (K : PySem.W.Frag) : Sp := fun vs H Q _ => ∃ (y : V) (b : Addr) (ws : List Int) (r : Bool), vs = [y, .ref b] ∧ zgg K H y ws r ∧ H b = some (.lst (ws.map V.int)) ∧ ∀ H', Same H H' → Q (.bl r) H'
theorem zeW : FnScope ["thing", "numbers"] ["thing", "numbers"] (zad za5) := ⟨rfl, rfl, rfl, by decide +kernel, rfl, by decide +kernel, by decide +kernel⟩
theorem zeX (D : Dfn K mg "are_numbers" za5 ["thing", "numbers"] f fd) (T : Txt K mg c_WaitError c_NoPiece c_NoEnd) (zaV : Cal P w K mg base "is_whole" 1 ["thing", "low", "high"] (zda K)) : Cal P w K mg base "are_numbers" 2 ["thing", "numbers"] (zkW K) := by
  refine D.cal (D.F.ok zeW (fun vs H Q E h => ?_) (fun cdv A outer s H vs Q E hr h => ?_))
  · obtain ⟨y, b, ws, r, rfl, _⟩ := h
    rfl
  obtain ⟨y, b, ws, r, rfl, hy, hb, q⟩ := h
  refine ⟨_, (zae (zbb (PW.pt (zdB (zbK (zbI (zax (zbf (n := "list")) rfl T.zaN zaG (zaa (pv 0) (zaa (zch (v := .ty "list") rfl T.zdI zcJ rfl) zac))))) (zdA (zap zis (zax zaF rfl T.zdS zcB (zaa (pv 0) zac)) (zax zaF rfl T.zdS zcB (zaa (pv 1) zac)) (zaw _))))) (zaf (zau zcz)) zaO)
      (zaf (zau (zax (zfS rfl) rfl T.zmy zky (zaa (zhq (nk := 2) (g := (gTup K 2 (zc0 (zcb 0) (zc0 (zcb 1) gNil)))) (N := ["part", "number"]) (js := []) rfl (CompScopeN.of rfl rfl rfl rfl rfl (by decide +kernel) rfl rfl rfl) (fun _ _ _ _ _ hn => (zca rfl (zas (hn 0 _ _ rfl (by decide)) (zas (hn 1 _ _ rfl (by decide)) zbp)))) (zmv rfl T.zng (zaa (pv 0) (zaa (pv 1) zac))) (fun _ _ _ _ _ => zb4) (fun _ _ _ _ _ => (zal zaV (hr.mono (by decide)) rfl (zaa (pv 0) (zaa (pv 1) (zaa (pv 1) zac)))))) zac))))), ?_⟩
  have ml : (ws.map V.int).length = ws.length := List.length_map _
  rcases hy with ⟨⟨t, ty, kt⟩, rfl⟩ | ⟨m, ys, rfl, hm, l1000, fl, rfl⟩
  · exact ⟨_, rfl, _, _, _, rfl, .old ty, kt, _, rfl, iteT (iteT (q H (Same.refl _)))⟩
  refine ⟨_, rfl, _, _, _, rfl, .old (.lst hm), T.zbk, _, rfl, iteF ?_⟩
  refine ⟨_, rfl, m, _, rfl, .inl (SqL.of hm), _, rfl, b, _, rfl, .inl (SqL.of hb), rfl, _, rfl, ?_⟩
  rw [ml]
  by_cases e : ys.length = ws.length
  · rw [decide_eq_true (show V.int (ys.length : Int) = V.int (ws.length : Int) by rw [e])]
    refine iteF ?_
    refine ⟨_, rfl, _, rfl, m, b, rfl, ⟨_, SqL.of hm⟩, ⟨_, SqL.of hb⟩, ?_⟩
    refine zkj (xs := ys) (ys := ws.map V.int) (fun j => V.bl (wh (ys.getD j .non) (ws.getD j 0) (ws.getD j 0))) (SqL.of hm) (SqL.of hb) (by rw [ml]; exact e.symm) ?_ (fun x y Hh Q' q' => q') ?_ (zaA (by omega)) (fun D H2 s2 nD hD => ?_)
    · intro p x y Hh os R hp ol r
      obtain ⟨o1, o2, rfl⟩ := len2 ol
      exact ⟨p, _, rfl, SqT.of hp, rfl, _, _, rfl, _, _, rfl, rfl, r⟩
    · intro i x y Hh Q' hx hy sh q'
      rw [List.getElem?_map] at hy
      cases ew : ws[i]? with
      | none => rw [ew] at hy; cases hy
      | some n =>
        rw [ew] at hy
        cases hy
        have e1 : ys.getD i .non = x := by rw [List.getD_eq_getElem?_getD, hx]; rfl
        have e2 : ws.getD i 0 = n := by rw [List.getD_eq_getElem?_getD, ew]; rfl
        rw [e1, e2] at q'
        have fx := List.all_eq_true.mp (fl e) x (List.mem_of_getElem? hx)
        exact ⟨_, rfl, _, rfl, _, rfl, x, n, n, rfl, zkl T fx (q' Hh (Same.refl _))⟩
    refine ⟨D, (List.range ys.length).map fun j => wh (ys.getD j .non) (ws.getD j 0) (ws.getD j 0), rfl, SqL.of (by rw [hD, List.map_map]; rfl), ?_⟩
    have eo : ((List.range ys.length).map fun j => wh (ys.getD j .non) (ws.getD j 0) (ws.getD j 0)).all id = okN ys ws := by
      unfold okN
      rw [decide_eq_true e, Bool.true_and, List.all_map]
      rfl
    rw [eo]
    exact q H2 s2
  · have e1 : okN ys ws = false := by
      unfold okN
      rw [decide_eq_false e, Bool.false_and]
    rw [e1] at q
    rw [decide_eq_false (show ¬ V.int (ys.length : Int) = V.int (ws.length : Int) from fun z => e (by injection z with z; omega))]
    exact iteT (q H (Same.refl _))
def zju (K : PySem.W.Frag) : Sp := fun vs H Q _ => ∃ (v : V) (b : Addr) (t : Int) (ws : List Int) (r : Bool), vs = [v, .int t, .ref b] ∧ zgT K H v t ws r ∧ H b = some (.lst (ws.map V.int)) ∧ ∀ H', Same H H' → Q (.bl r) H'
theorem zgh : FnScope ["thing", "turn", "numbers"] ["thing", "turn", "numbers"] (zad zbz) := ⟨rfl, rfl, rfl, by decide +kernel, rfl, by decide +kernel, by decide +kernel⟩
theorem zgi (D : Dfn K mg "is_row_of" zbz ["thing", "turn", "numbers"] f fd) (T : Txt K mg c_WaitError c_NoPiece c_NoEnd) (zaV : Cal P w K mg base "is_whole" 1 ["thing", "low", "high"] (zda K)) (zcR : Cal P w K mg base "are_numbers" 2 ["thing", "numbers"] (zkW K)) : Cal P w K mg base "is_row_of" 3 ["thing", "turn", "numbers"] (zju K) := by
  refine D.cal (D.F.ok zgh (fun vs H Q E h => ?_) (fun cdv A outer s H vs Q E hr h => ?_))
  · obtain ⟨v, b, t, ws, r, rfl, _⟩ := h
    rfl
  obtain ⟨v, b, t, ws, r, rfl, hv, hb, q⟩ := h
  refine ⟨_, (zae (zbb (PW.pt (zdB (zbK (zbI (zax (zbf (n := "tuple")) rfl T.zaN zaG (zaa (pv 0) (zaa (zch (v := .ty "tuple") rfl T.zgI zfl rfl) zac))))) (zdA (zap zis (zax zaF rfl T.zdS zcB (zaa (pv 0) zac)) zab (zaw _))))) (zaf (zau zcz)) zaO)
      (zaf (zau (zg7 (zal zaV (hr.mono (by decide)) rfl (zaa (zaq zao (pv 0) zab (fun _ _ => rfl)) (zaa (pv 1) (zaa (pv 1) zac)))) (zg6 (zal zcR (hr.mono (by decide)) rfl (zaa (zaq zao (pv 0) zab (fun _ _ => rfl)) (zaa (pv 2) zac)))))))), ?_⟩
  rcases hv with ⟨⟨ty, h1, h2⟩, rfl⟩ | ⟨p, xs, rfl, hp, l2, rfl⟩ | ⟨p, x, y, rfl, hp, fx, hx⟩
  · exact ⟨_, rfl, _, _, _, rfl, .old h1, h2, _, rfl, iteT (iteT (q H (Same.refl _)))⟩
  · refine ⟨_, rfl, _, _, _, rfl, .old (.tup hp), T.zaW, _, rfl, iteF ?_⟩
    refine ⟨_, rfl, p, _, rfl, .inr (SqT.of hp), rfl, _, rfl, ?_⟩
    rw [decide_eq_false (show ¬ V.int (xs.length : Int) = V.int 2 from fun z => l2 (by injection z with z; omega))]
    exact iteT (q H (Same.refl _))
  · refine ⟨_, rfl, _, _, _, rfl, .old (.tup hp), T.zaW, _, rfl, iteF ?_⟩
    refine ⟨_, rfl, p, _, rfl, .inr (SqT.of hp), rfl, _, rfl, ?_⟩
    refine iteF ?_
    refine ⟨_, rfl, p, _, _, _, rfl, rfl, SqT.of hp, rfl, _, rfl, _, rfl, x, t, t, rfl, ?_⟩
    rcases hx with ⟨w, rfl⟩ | ⟨w, hN⟩
    · rcases zcQ (H := H) (lo := t) (hi := t) T fx with ⟨i, rfl, ew⟩ | ⟨no, ew⟩
      · refine .inl ⟨i, rfl, ?_⟩
        rw [← ew, w]
        exact ⟨_, rfl, iteF (q H (Same.refl _))⟩
      · exact .inr ⟨no, _, rfl, iteF (q H (Same.refl _))⟩
    · rcases zcQ (H := H) (lo := t) (hi := t) T fx with ⟨i, rfl, ew⟩ | ⟨no, ew⟩
      rotate_left
      · rw [ew] at w
        cases w
      refine .inl ⟨i, rfl, ?_⟩
      rw [← ew, w]
      refine ⟨_, rfl, iteT ?_⟩
      exact ⟨_, rfl, p, _, _, _, rfl, rfl, SqT.of hp, rfl, _, rfl, y, b, ws, r, rfl, hN, hb, q⟩
theorem zhz {h : Nat} {b : Int} {c : Ch} {i : Nat} : ∀ {n : Nat}, i < n → (runN h n b c).1[i]? = some (b + i, wkC (b + i) h (runN h i b c).2)
  | n + 1, hi => by
    rw [zaK]
    by_cases e : i < n
    · rw [List.getElem?_append_left (by rw [zcw]; exact e)]
      exact zhz e
    · have : i = n := by omega
      subst this
      rw [List.getElem?_append_right (by rw [zcw]; omega), zcw, Nat.sub_self]
      rfl
abbrev wkI (h : Nat) (b : Int) (c : Ch) (i : Nat) : List Int := wkC (b + i) h (runN h i b c).2
def zkX (K : PySem.W.Frag) (tT : Addr) : Sp := fun vs H Q _ => ∃ (l : Addr) (v : V) (xs : List (Addr × Cl × Int)) (h b : Int), vs = [.ref l, .int h, .int b, v] ∧ ChIn K H l xs ∧ 0 < h ∧ 0 ≤ b ∧ b ≤ 1000 ∧ H tT = some (.tbl zcV lamQ) ∧
  ((NotL K H v ∧ ∀ H', Same H H' → Q .non H') ∨ ∃ (D : Addr) (us : List V) (n : Nat), v = .ref D ∧ H D = some (.lst us) ∧ n ≤ us.length ∧ (∀ i u, i < n → us[i]? = some u → zgT K H u (b + i) (wkI h.toNat b (bhC [] (xs.map (·.2))) i) true) ∧
    ((n = us.length ∧ ∀ D' H' ys, Same H H' → H D' = none → ChIn K H' D' ys → ys.map (·.2) = (runN h.toNat n b (bhC [] (xs.map (·.2)))).2 → Q (.ref D') H') ∨
      ((∃ u, us[n]? = some u ∧ zgT K H u (b + n) (wkI h.toNat b (bhC [] (xs.map (·.2))) n) false) ∧ ∀ H', Same H H' → Q .non H')))
theorem zb0 : FnScope ["chores", "hands", "begin", "rows", "left", "turn", "row", "step"] ["chores", "hands", "begin", "rows"] (zad zbO) := ⟨rfl, rfl, rfl, by decide +kernel, rfl, by decide +kernel, by decide +kernel⟩
theorem zgU (D : Dfn K mg "walk_run" zbO ["chores", "hands", "begin", "rows"] f fd) (T : Txt K mg c_WaitError c_NoPiece c_NoEnd) (zaI : Cal P w K mg base "chores_behind" 1 ["chores", "numbers"] (zel K)) (zbY : Cal P w K mg base "turn_done" 9 ["chores", "hands", "turn"] (zjp K tT)) (zdx : Cal P w K mg base "is_row_of" 3 ["thing", "turn", "numbers"] (zju K)) : Cal P w K mg base "walk_run" 10 ["chores", "hands", "begin", "rows"] (zkX K tT) := by
  refine D.cal (D.F.ok zb0 (fun vs H Q E h => ?_) (fun cdv A outer s H vs Q E hr h => ?_))
  · obtain ⟨l, v, xs, h, b, rfl, _⟩ := h
    rfl
  obtain ⟨l, v, xs, h, b, rfl, hI, h0, b0, b1, hT, hv⟩ := h
  refine ⟨_, (zae (zbb (zbK (zbI (zax (zbf (n := "list")) rfl T.zaN zaG (zaa (pv 3) (zaa (zch (v := .ty "list") rfl T.zdI zcJ rfl) zac))))) (zaf (zau zcT)) zaO)
      (zae (zav (i := 4) zb0.nd rfl (Or.inl rfl) (zal zaI (hr.mono (by decide)) rfl (zaa (pv 0) (zaa (zaz zac) zac))))
      (zae (zc2 PassesOwn.never rfl (zkh rfl T.zeH (zaa (pv 3) zac) (pv 2)) (zca rfl (zas (zaD (i := 5) zb0.nd rfl (Or.inl rfl)) (zas (zaD (i := 6) zb0.nd rfl (Or.inl rfl)) zbp))) (zae (zav (i := 7) zb0.nd rfl (Or.inl rfl) (zal zbY (hr.mono (by decide)) rfl (zaa (pv 4) (zaa (pv 1) (zaa (pv 5) zac)))))
      (zae (zbb (zbK (zbI (zal zdx (hr.mono (by decide)) rfl (zaa (pv 6) (zaa (pv 5) (zaa (zaq zao (pv 7) zab (fun _ _ => rfl)) zac)))))) (zaf (zau zcT)) zaO)
      (zaf (zav (i := 4) zb0.nd rfl (Or.inl rfl) (zaq zao (pv 7) zab (fun _ _ => rfl)))))))
      (zaf (zau (pv 4)))))), ?_⟩
  rcases hv with ⟨⟨ty, h1, h2⟩, q⟩ | ⟨D0, us, n, rfl, hD, hn, ok, fin⟩
  · exact ⟨_, rfl, _, _, _, rfl, .old h1, h2, _, rfl, iteT (q H (Same.refl _))⟩
  refine ⟨_, rfl, _, _, _, rfl, .old (.lst hD), T.zbk, _, rfl, iteF ?_⟩
  refine ⟨_, rfl, sz 0 (by decide), fun l1 H1 s1 n1 h1 => ?_⟩
  refine ⟨l, l1, xs, [], rfl, hI.same s1, h1, fun D1 H2 bs s2 nD1 B => ?_⟩
  obtain ⟨hI2, e2⟩ := (hI.same s1).next s2 B
  have s02 := s1.trans s2
  generalize hc0 : bhC [] (xs.map (·.2)) = c0 at e2 ok fin
  refine ⟨_, rfl, _, rfl, D0, b, rfl, rfl, b0, by omega, ⟨_, SqL.of (s02 _ _ hD)⟩, ?_⟩
  refine zjj (K := K) (a := D0) (c := b) (xs := us) (fun i σ H' => ∃ (l' : Addr) (xs' : List (Addr × Cl × Int)) (v5 v6 v7 : Option V), σ = [some (.ref l), some (.int h), some (.int b), some (.ref D0), some (.ref l'), v5, v6, v7] ∧ Same H H' ∧ H l' = none ∧ ChIn K H' l' xs' ∧ xs'.map (·.2) = (runN h.toNat i b c0).2 ∧ i ≤ n)
    ⟨D1, _, _, _, _, rfl, s02, Same.free s1 nD1, hI2, e2, Nat.zero_le _⟩ (fun i σ H' _ ⟨_, _, _, _, _, _, s, _⟩ => SqL.of (s _ _ hD)) ?_ ?_
  · rintro i x σ H3 p H4 hi ⟨l', xs', v5, v6, v7, rfl, s3, nl, hI3, e3, il⟩ s4 np hp
    refine ⟨p, _, rfl, SqT.of hp, rfl, _, _, rfl, _, _, rfl, rfl, ?_⟩
    have hI4 := hI3.same s4
    refine ⟨_, rfl, _, rfl, _, rfl, l', xs', h, _, rfl, hI4, by omega, s4 _ _ (s3 _ _ hT), fun p2 m2 D2 H5 bs2 s5 hp2 nm nD2 mD hm2 B2 => ?_⟩
    obtain ⟨hI5, e5⟩ := hI4.next s5 B2
    have s35 := s3.trans (s4.trans s5)
    have ew : zbH (b + i) h.toNat xs' = wkI h.toNat b c0 i := by rw [zdQ, e3]
    rw [ew] at hm2
    by_cases lt : i < n
    · refine ⟨_, rfl, _, rfl, _, rfl, p2, _, _, _, rfl, rfl, SqT.of hp2, rfl, x, m2, _, _, true, rfl, (ok i x lt hi).same s35, hm2, fun H6 s6 => ?_⟩
      refine ⟨_, rfl, iteF ?_⟩
      refine ⟨_, rfl, p2, _, _, _, rfl, rfl, SqT.of (s6 _ _ hp2), rfl, ?_⟩
      refine ⟨D2, _, _, _, _, rfl, s35.trans s6, Same.free (s3.trans s4) nD2, hI5.same s6, ?_, lt⟩
      rw [e5, e3, zaK, zdQ, e3]
    · have ein : i = n := by omega
      subst ein
      rcases fin with ⟨e, _⟩ | ⟨⟨u, hu, bad⟩, q⟩
      · have := (List.getElem?_eq_some_iff.mp hi).1
        omega
      · rw [hu] at hi
        cases hi
        exact ⟨_, rfl, _, rfl, _, rfl, p2, _, _, _, rfl, rfl, SqT.of hp2, rfl, x, m2, _, _, false, rfl, bad.same s35, hm2, fun H6 s6 => ⟨_, rfl, iteT (q H6 (s35.trans s6))⟩⟩
  · rintro σ H3 ⟨l', xs', v5, v6, v7, rfl, s3, nl, hI3, e3, il⟩
    have eu : us.length = n := by omega
    rcases fin with ⟨e, q⟩ | ⟨⟨u, hu, bad⟩, q⟩
    · rw [eu] at e3
      exact ⟨_, rfl, q l' H3 xs' s3 nl hI3 e3⟩
    · have := (List.getElem?_eq_some_iff.mp hu).1
      omega
theorem zmF {i j : Int} (h : i ≠ j) : wh (.int i) j j = false := by
  show (decide (j ≤ i) && decide (i ≤ j)) = false
  rw [Bool.and_eq_false_iff]
  rcases Int.lt_or_gt_of_ne h with l | l
  · exact .inl (decide_eq_false (by omega))
  · exact .inr (decide_eq_false (by omega))
theorem zfw (i : Int) : wh (.int i) i i = true := by
  show (decide (i ≤ i) && decide (i ≤ i)) = true
  simp
theorem zhA (ws : List Int) : okN (ws.map V.int) ws = true := by
  unfold okN
  rw [Bool.and_eq_true]
  refine ⟨decide_eq_true (List.length_map _), List.all_eq_true.mpr fun j hj => ?_⟩
  have lj := List.mem_range.mp hj
  rw [List.length_map] at lj
  have : (ws.map V.int).getD j .non = .int (ws.getD j 0) := by
    rw [List.getD_eq_getElem?_getD, List.getD_eq_getElem?_getD, List.getElem?_map, List.getElem?_eq_getElem lj]
    rfl
  rw [this]
  exact zfw _
theorem zaY (ws : List Int) : (ws.map V.int).all zaM = true := List.all_eq_true.mpr fun v hv => by
  obtain ⟨i, _, rfl⟩ := List.mem_map.mp hv
  rfl
theorem zhB {ys : List V} {ws : List Int} (h : okN ys ws = true) : ys = ws.map V.int := by
  unfold okN at h
  rw [Bool.and_eq_true, decide_eq_true_iff] at h
  obtain ⟨l, a⟩ := h
  refine List.ext_getElem (by rw [List.length_map]; exact l) fun j h1 h2 => ?_
  have e := List.all_eq_true.mp a j (List.mem_range.mpr h1)
  rw [List.getD_eq_getElem?_getD, List.getD_eq_getElem?_getD, List.getElem?_eq_getElem h1, List.getElem?_eq_getElem (by rw [List.length_map] at h2; exact h2)] at e
  rw [List.getElem_map]
  have e : wh ys[j] (ws[j]'(by rw [List.length_map] at h2; exact h2)) (ws[j]'(by rw [List.length_map] at h2; exact h2)) = true := e
  cases ey : ys[j] with
  | int i =>
    rw [ey] at e
    have e : (decide ((ws[j]'(by rw [List.length_map] at h2; exact h2)) ≤ i) && decide (i ≤ (ws[j]'(by rw [List.length_map] at h2; exact h2)))) = true := e
    rw [Bool.and_eq_true, decide_eq_true_iff, decide_eq_true_iff] at e
    congr 1
    omega
  | _ =>
    rw [ey] at e
    cases e
theorem zjv {x : V} {t : Int} (h : wh x t t = true) : x = .int t := by
  cases x with
  | int i =>
    have h : (decide (t ≤ i) && decide (i ≤ t)) = true := h
    rw [Bool.and_eq_true, decide_eq_true_iff, decide_eq_true_iff] at h
    congr 1
    omega
  | _ => cases h
def NumG (K : PySem.W.Frag) (H : Hp) (y : V) (ws : List Int) (r : Bool) : Prop := (NotL K H y ∧ r = false) ∨ ∃ m ys, y = .ref m ∧ H m = some (.lst ys) ∧ ys.length ≤ 1000 ∧ ys.all zaM = true ∧ r = okN ys ws
def RowG (K : PySem.W.Frag) (H : Hp) (v : V) (t : Int) (ws : List Int) (r : Bool) : Prop :=
  (NotT K H v ∧ r = false) ∨ (∃ p xs, v = .ref p ∧ H p = some (.tup xs) ∧ xs.length ≠ 2 ∧ r = false) ∨
    ∃ p x y r2, v = .ref p ∧ H p = some (.tup [x, y]) ∧ zaM x = true ∧ NumG K H y ws r2 ∧ r = (wh x t t && r2)
theorem NumG.same {H H' : Hp} {y : V} {ws : List Int} {r : Bool} (s : Same H H') (h : NumG K H y ws r) : NumG K H' y ws r :=
  h.imp (fun ⟨a, b⟩ => ⟨a.same s, b⟩) fun ⟨m, ys, e, a, b⟩ => ⟨m, ys, e, s _ _ a, b⟩
theorem RowG.same {H H' : Hp} {v : V} {t : Int} {ws : List Int} {r : Bool} (s : Same H H') (h : RowG K H v t ws r) : RowG K H' v t ws r :=
  h.imp (fun ⟨a, b⟩ => ⟨a.same s, b⟩) fun h => h.imp (fun ⟨p, xs, e, a, b⟩ => ⟨p, xs, e, s _ _ a, b⟩) fun ⟨p, x, y, r2, e, a, b, c, d⟩ => ⟨p, x, y, r2, e, s _ _ a, b, c.same s, d⟩
theorem RowG.is {H : Hp} {v : V} {t : Int} {ws : List Int} {r : Bool} (h : RowG K H v t ws r) : zgT K H v t ws r := by
  rcases h with h | h | ⟨p, x, y, r2, e, a, f, g, rfl⟩
  · exact .inl h
  · exact .inr (.inl h)
  · refine .inr (.inr ⟨p, x, y, e, a, f, ?_⟩)
    cases w : wh x t t with
    | false => exact .inl ⟨rfl, rfl⟩
    | true =>
      rw [Bool.true_and]
      refine .inr ⟨rfl, ?_⟩
      rcases g with g | ⟨m, ys, e, a, b, c, d⟩
      · exact .inl g
      · exact .inr ⟨m, ys, e, a, b, fun _ => c, d⟩
theorem RowG.right {H : Hp} {v : V} {t : Int} {ws : List Int} (h : RowG K H v t ws true) : ∃ p m, v = .ref p ∧ H p = some (.tup [.int t, .ref m]) ∧ H m = some (.lst (ws.map V.int)) := by
  rcases h with ⟨_, z⟩ | ⟨_, _, _, _, _, z⟩ | ⟨p, x, y, r2, e, a, f, g, z⟩
  · cases z
  · cases z
  · have z := z.symm
    rw [Bool.and_eq_true] at z
    obtain ⟨z1, z2⟩ := z
    rw [z2] at g
    rw [zjv z1] at a
    rcases g with ⟨_, g⟩ | ⟨m, ys, rfl, b, _, _, d⟩
    · cases g
    · rw [zhB d.symm] at b
      exact ⟨p, m, e, a, b⟩
structure Walked (K : PySem.W.Frag) (H : Hp) (us : List V) (h : Nat) (b : Int) (c0 : Ch) (n : Nat) : Prop where
  le : n ≤ us.length
  ok : ∀ i u, i < n → us[i]? = some u → RowG K H u (b + i) (wkI h b c0 i) true
  fin : n = us.length ∨ ∃ u, us[n]? = some u ∧ RowG K H u (b + n) (wkI h b c0 n) false
theorem Walked.same {H H' : Hp} {us : List V} {h : Nat} {b : Int} {c0 : Ch} {n : Nat} (s : Same H H') (w : Walked K H us h b c0 n) : Walked K H' us h b c0 n :=
  ⟨w.le, fun i u hi e => (w.ok i u hi e).same s, w.fin.imp id fun ⟨u, e, r⟩ => ⟨u, e, r.same s⟩⟩
theorem zgj {H : Hp} {us : List V} {h : Nat} {b : Int} {c0 : Ch} (all : ∀ u, u ∈ us → ∀ t ws, ∃ r, RowG K H u t ws r) : ∃ n, Walked K H us h b c0 n := by
  have : ∀ m, m ≤ us.length → (∃ n, Walked K H us h b c0 n) ∨ ∀ i u, i < m → us[i]? = some u → RowG K H u (b + i) (wkI h b c0 i) true := by
    intro m
    induction m with
    | zero => exact fun _ => .inr fun i u hi => absurd hi (Nat.not_lt_zero _)
    | succ m ih =>
      intro hm
      rcases ih (by omega) with d | ok
      · exact .inl d
      · have em : us[m]? = some (us[m]'(by omega)) := List.getElem?_eq_getElem _
        obtain ⟨r, hr⟩ := all _ (List.mem_of_getElem? em) (b + m) (wkI h b c0 m)
        cases r with
        | false => exact .inl ⟨m, by omega, ok, .inr ⟨_, em, hr⟩⟩
        | true =>
          refine .inr fun i u hi e => ?_
          by_cases z : i = m
          · subst z
            rw [em] at e
            cases e
            exact hr
          · exact ok i u (by omega) e
  rcases this us.length (Nat.le_refl _) with d | ok
  · exact d
  · exact ⟨us.length, Nat.le_refl _, ok, .inl rfl⟩
def shw (h : Nat) (b : Int) (c0 : Ch) (n len : Nat) (x y : V) : Bool := decide (n = len) && (decide (0 < n) && (match x, y with
  | .int i, .int j => decide (j = b + ((n - 1 : Nat) : Int)) && (decide (i ∈ wkI h b c0 (n - 1)) && !decide (i ∈ (runN h n b c0).2.map (·.1.n)))
  | _, _ => false))
theorem zmG {h : Nat} {b : Int} {c0 : Ch} {n len : Nat} {x y : V} (z : ∀ i : Int, x = .int i → i ∉ wkI h b c0 (n - 1)) : shw h b c0 n len x y = false := by
  unfold shw
  cases x with
  | int i =>
    cases y with
    | int j =>
      dsimp only
      rw [decide_eq_false (z i rfl), Bool.false_and, Bool.and_false, Bool.and_false, Bool.and_false]
    | _ => simp
  | _ => simp
theorem zkm {h : Nat} {b : Int} {c0 : Ch} {n len : Nat} {x y : V} (z : wh y (b + ((n - 1 : Nat) : Int)) (b + ((n - 1 : Nat) : Int)) = false) : shw h b c0 n len x y = false := by
  unfold shw
  cases x with
  | int i =>
    cases y with
    | int j =>
      have : j ≠ b + ((n - 1 : Nat) : Int) := fun e => by
        rw [e, zfw] at z
        cases z
      dsimp only
      rw [decide_eq_false this, Bool.false_and, Bool.and_false, Bool.and_false]
    | _ => simp
  | _ => simp
theorem zkn {h : Nat} {b : Int} {c0 : Ch} {n len : Nat} {x y : V} (z : n ≠ len ∨ n = 0) : shw h b c0 n len x y = false := by
  unfold shw
  rcases z with z | z
  · rw [decide_eq_false z, Bool.false_and]
  · rw [decide_eq_false (show ¬ 0 < n by omega), Bool.false_and, Bool.and_false]
theorem znh {h : Nat} {b : Int} {xs : List (Addr × Cl × Int)} {n : Nat} {i : Int} (m : i ∈ wkI h b (bhC [] (xs.map (·.2))) n) : ∃ k, k ∈ xs ∧ 0 < k.2.2 ∧ k.2.1.n = i := by
  have := (zjg (h := h) (b := b) (c := bhC [] (xs.map (·.2))) (n + 1)).2 _ (zek (Nat.lt_succ_self n)) i m
  obtain ⟨k, hk, e⟩ := List.mem_map.mp this
  rw [zfr] at hk
  obtain ⟨h1, h2⟩ := List.mem_filter.mp hk
  obtain ⟨q, hq, rfl⟩ := List.mem_map.mp h1
  exact ⟨q, hq, of_decide_eq_true h2, e⟩
def zgV (K : PySem.W.Frag) (tT : Addr) : Sp := fun vs H Q _ => ∃ (l : Addr) (v x y : V) (xs : List (Addr × Cl × Int)) (h b : Int), vs = [.ref l, .int h, .int b, x, y, v] ∧ ChIn K H l xs ∧ 0 < h ∧ 0 ≤ b ∧ b ≤ 1000 ∧ H tT = some (.tbl zcV lamQ) ∧ zaM x = true ∧ zaM y = true ∧
  ((NotL K H v ∧ ∀ H', Same H H' → Q (.bl false) H') ∨ ∃ (D : Addr) (us : List V) (n : Nat), v = .ref D ∧ H D = some (.lst us) ∧ Walked K H us h.toNat b (bhC [] (xs.map (·.2))) n ∧ ∀ H', Same H H' → Q (.bl (shw h.toNat b (bhC [] (xs.map (·.2))) n us.length x y)) H')
theorem zcs : FnScope ["chores", "hands", "begin", "number", "turn", "rows", "left", "last"] ["chores", "hands", "begin", "number", "turn", "rows"] (zad za1) := ⟨rfl, rfl, rfl, by decide +kernel, rfl, by decide +kernel, by decide +kernel⟩
theorem zeK (D : Dfn K mg "shows_latest" za1 ["chores", "hands", "begin", "number", "turn", "rows"] f fd) (T : Txt K mg c_WaitError c_NoPiece c_NoEnd) (zaV : Cal P w K mg base "is_whole" 1 ["thing", "low", "high"] (zda K)) (zdY : Cal P w K mg base "walk_run" 10 ["chores", "hands", "begin", "rows"] (zkX K tT)) (zba : Cal P w K mg base "is_piece_of" 2 ["chores", "number"] (zjr K)) : Cal P w K mg base "shows_latest" 11 ["chores", "hands", "begin", "number", "turn", "rows"] (zgV K tT) := by
  refine D.cal (D.F.ok zcs (fun vs H Q E h => ?_) (fun cdv A outer s H vs Q E hr h => ?_))
  · obtain ⟨l, v, x, y, xs, h, b, rfl, _⟩ := h
    rfl
  obtain ⟨l, v, x, y, xs, h, b, rfl, hI, h0, b0, b1, hT, fx, fy, hv⟩ := h
  refine ⟨_, (zae (zbb (zbK (zbI (zal zba (hr.mono (by decide)) rfl (zaa (pv 0) (zaa (pv 3) zac))))) (zaf (zau zcz)) zaO)
      (zae (zav (i := 6) zcs.nd rfl (Or.inl rfl) (zal zdY (hr.mono (by decide)) rfl (pai (zag (pv 0) (zag (pv 1) (zag (pv 2) (zag (pv 5) zbw)))))))
      (zae (zbb (PW.pt (zdB (zap ziu (pv 6) zcT (zaw _)) (zdA (zap zcA (zax zaF rfl T.zdS zcB (zaa (pv 5) zac)) zab (zaw _))))) (zaf (zau zcz)) zaO)
      (zae (zav (i := 7) zcs.nd rfl (Or.inl rfl) (zaq zaZ (pv 5) (zeP zdo zab) (fun _ _ => rfl)))
      (zae (zbb (PW.pt (zdB (zbK (zbI (zal zaV (hr.mono (by decide)) rfl (zaa (pv 4) (zaa (zaq zao (pv 7) zab (fun _ _ => rfl)) (zaa (zaq zao (pv 7) zab (fun _ _ => rfl)) zac)))))) (zdA (zap zd5 (pv 3) (zaq zao (pv 7) zab (fun _ _ => rfl)) rfl)))) (zaf (zau zcz)) zaO)
      (zaf (zau (zks (zal zba (hr.mono (by decide)) rfl (zaa (pv 6) (zaa (pv 3) zac))))))))))), ?_⟩
  have px : (∃ k, k ∈ xs ∧ 0 < k.2.2 ∧ x = .int k.2.1.n) ∨ (NoPc K H xs x ∧ ∀ i : Int, x = .int i → ∀ k, k ∈ xs → 0 < k.2.2 → k.2.1.n ≠ i) := by
    rcases zcQ (H := H) (lo := 0) (hi := 0) T fx with ⟨i, rfl, _⟩ | ⟨no, ew⟩
    · by_cases e : ∃ k, k ∈ xs ∧ 0 < k.2.2 ∧ k.2.1.n = i
      · obtain ⟨k, hk, p, e⟩ := e
        exact .inl ⟨k, hk, p, by rw [e]⟩
      · have z : ∀ k, k ∈ xs → 0 < k.2.2 → k.2.1.n ≠ i := fun k hk p z => e ⟨k, hk, p, z⟩
        exact .inr ⟨.inr ⟨i, rfl, z⟩, fun j e => by cases e; exact z⟩
    · refine .inr ⟨.inl no, fun i e => ?_⟩
      subst e
      obtain ⟨t, ty, k⟩ := no
      cases ty
      rcases k with k | ⟨k, k'⟩
      · rw [T.zbV] at k
        cases k
      · rw [T.zcn] at k'
        cases k'
  rcases px with ⟨k, hk, p, rfl⟩ | ⟨no, noi⟩
  rotate_left
  · refine ⟨_, rfl, _, rfl, l, xs, _, rfl, hI, .inr ⟨no, fun H1 s1 => ⟨_, rfl, iteT ?_⟩⟩⟩
    rcases hv with ⟨_, q⟩ | ⟨D0, us, n, rfl, hD, W, q⟩
    · exact q H1 s1
    · rw [zmG fun i e m => by
        obtain ⟨k, hk, p, e'⟩ := znh m
        exact noi i e k hk p e'] at q
      exact q H1 s1
  refine ⟨_, rfl, _, rfl, l, xs, _, rfl, hI, .inl ⟨k, hk, p, rfl, fun H1 s1 => ⟨_, rfl, iteF ?_⟩⟩⟩
  refine ⟨_, rfl, _, rfl, _, rfl, _, rfl, l, v, xs, h, b, rfl, hI.same s1, h0, b0, b1, s1 _ _ hT, ?_⟩
  rcases hv with ⟨nl, q⟩ | ⟨D0, us, n, rfl, hD, W, q⟩
  · exact .inl ⟨nl.same s1, fun H2 s2 => ⟨_, rfl, rfl, _, rfl, iteT (iteT (q H2 (s1.trans s2)))⟩⟩
  refine .inr ⟨D0, us, n, rfl, s1 _ _ hD, W.le, fun i u hi e => ((W.ok i u hi e).same s1).is, ?_⟩
  rcases W.fin with en | ⟨u, eu, bad⟩
  rotate_left
  · refine .inr ⟨⟨u, eu, (bad.same s1).is⟩, fun H2 s2 => ?_⟩
    have nl : n < us.length := (List.getElem?_eq_some_iff.mp eu).1
    rw [zkn (.inl (by omega))] at q
    exact ⟨_, rfl, rfl, _, rfl, iteT (iteT (q H2 (s1.trans s2)))⟩
  refine .inl ⟨en, fun D' H2 ys s2 nD' Y ey => ?_⟩
  have s02 := s1.trans s2
  refine ⟨_, rfl, rfl, _, rfl, iteF ?_⟩
  refine ⟨_, rfl, D0, _, rfl, .inl (SqL.of (s02 _ _ hD)), rfl, _, rfl, ?_⟩
  by_cases n0 : n = 0
  · rw [decide_eq_true (show V.int (us.length : Int) = V.int 0 by rw [← en, n0]; rfl)]
    rw [zkn (.inr n0)] at q
    exact iteT (q H2 s02)
  rw [decide_eq_false (show ¬ V.int (us.length : Int) = V.int 0 from fun z => by injection z with z; omega)]
  refine iteF ?_
  have el : us[n - 1]? = some (us[n - 1]'(by omega)) := List.getElem?_eq_getElem _
  obtain ⟨pl, m, eu, hp, hm⟩ := ((W.ok (n - 1) _ (by omega) el).same s02).right
  rw [eu] at el
  have ea : atI us (-1) = some (.ref pl) := by
    have : us = us.take (n - 1) ++ [.ref pl] := by
      have e := List.take_append_drop (n - 1) us
      rw [← e]
      congr 1
      · rw [e]
      · rw [List.drop_eq_getElem_cons (by omega), List.drop_of_length_le (by omega)]
        rw [List.getElem?_eq_getElem (by omega)] at el
        injection el with el
        rw [el]
    rw [this]
    exact zeh _ _
  refine ⟨_, rfl, _, rfl, D0, _, _, _, rfl, rfl, SqL.of (s02 _ _ hD), ea, ?_⟩
  refine ⟨_, rfl, _, rfl, pl, _, _, _, rfl, rfl, SqT.of hp, rfl, _, rfl, pl, _, _, _, rfl, rfl, SqT.of hp, rfl, y, _, _, rfl, ?_⟩
  rcases zcQ (H := H2) (lo := b + ((n - 1 : Nat) : Int)) (hi := b + ((n - 1 : Nat) : Int)) T fy with ⟨j, rfl, ew⟩ | ⟨no, ew⟩
  rotate_left
  · rw [zkm ew] at q
    exact .inr ⟨no, _, rfl, iteT (iteT (q H2 s02))⟩
  refine .inl ⟨j, rfl, ?_⟩
  rw [← ew]
  cases wj : wh (.int j) (b + ((n - 1 : Nat) : Int)) (b + ((n - 1 : Nat) : Int)) with
  | false =>
    rw [zkm wj] at q
    exact ⟨_, rfl, iteT (iteT (q H2 s02))⟩
  | true =>
    have ej := zjv wj
    injection ej with ej
    refine ⟨_, rfl, iteF ?_⟩
    refine ⟨_, rfl, _, rfl, pl, _, _, _, rfl, rfl, SqT.of hp, rfl, m, _, rfl, .inl (SqL.of hm), rfl, zaY _, _, rfl, ?_⟩
    rw [zeB]
    have qq : ∀ H', Same H H' → Q (.bl (decide (k.2.1.n ∈ wkI h.toNat b (bhC [] (xs.map (·.2))) (n - 1)) && !decide (k.2.1.n ∈ (runN h.toNat n b (bhC [] (xs.map (·.2)))).2.map (·.1.n)))) H' := fun H' s => by
      have z := q H' s
      unfold shw at z
      rw [decide_eq_true en, decide_eq_true (show 0 < n by omega)] at z
      dsimp only at z
      rw [decide_eq_true ej, Bool.true_and, Bool.true_and, Bool.true_and] at z
      exact z
    by_cases mem : k.2.1.n ∈ wkI h.toNat b (bhC [] (xs.map (·.2))) (n - 1)
    rotate_left
    · rw [decide_eq_false mem] at qq ⊢
      exact iteT (qq H2 s02)
    rw [decide_eq_true mem] at qq ⊢
    refine iteF ?_
    rw [Bool.true_and] at qq
    have pos : ∀ z, z ∈ ys → 0 < z.2.2 := fun z hz => by
      have hz : z.2 ∈ (runN h.toNat n b (bhC [] (xs.map (·.2)))).2 := by
        rw [← ey]
        exact List.mem_map.mpr ⟨z, hz, rfl⟩
      cases n with
      | zero => exact absurd rfl n0
      | succ n =>
        rw [zaK] at hz
        exact zc7 hz
    refine ⟨_, rfl, _, rfl, D', ys, _, rfl, Y, ?_⟩
    by_cases left : k.2.1.n ∈ (runN h.toNat n b (bhC [] (xs.map (·.2)))).2.map (·.1.n)
    · rw [decide_eq_true left] at qq
      rw [← ey, List.map_map] at left
      obtain ⟨z, hz, ez⟩ := List.mem_map.mp left
      have ez : z.2.1.n = k.2.1.n := ez
      exact .inl ⟨z, hz, pos z hz, by rw [ez], fun H3 s3 => ⟨_, rfl, qq H3 (s02.trans s3)⟩⟩
    · rw [decide_eq_false left] at qq
      refine .inr ⟨.inr ⟨_, rfl, fun z hz _ e => left ?_⟩, fun H3 s3 => ⟨_, rfl, qq H3 (s02.trans s3)⟩⟩
      rw [← ey, List.map_map]
      exact List.mem_map.mpr ⟨z, hz, e⟩
def isI : V → Bool
  | .int _ => true
  | _ => false
def zfx : Sp := fun vs H Q _ => ∃ x : V, vs = [x] ∧ zaM x = true ∧ Q (.bl (isI x)) H
theorem zgk : FnScope ["_law_found"] ["_law_found"] (zad zbA) := ⟨rfl, rfl, rfl, by decide +kernel, rfl, by decide +kernel, by decide +kernel⟩
theorem zgl (D : Dfn K mg "_law_whole" zbA ["_law_found"] f fd) (T : Txt K mg c_WaitError c_NoPiece c_NoEnd) : Cal P w K mg base "_law_whole" 1 ["_law_found"] zfx := by
  refine D.cal (D.F.ok zgk (fun vs H Q E h => ?_) (fun cdv A outer s H vs Q E hr h => ?_))
  · obtain ⟨x, rfl, _⟩ := h
    rfl
  obtain ⟨x, rfl, fx, q⟩ := h
  refine ⟨_, (zaf (zau (zg7 (zax (zbf (n := "int")) rfl T.zaN zaG (zaa (pv 0) (zaa (zch (v := .ty "int") rfl T.zh3 ze4 rfl) zac))) (zg6 (zks (zax (zbf (n := "bool")) rfl T.zaN zaG (zaa (pv 0) (zaa (zch (v := .ty "bool") rfl T.zjm zgA rfl) zac)))))))), ?_⟩
  cases x with
  | non => exact ⟨_, rfl, _, _, _, rfl, .old .non, T.q_NoneType_int, _, rfl, iteF q⟩
  | bl b => exact ⟨_, rfl, _, _, _, rfl, .old (.bl b), T.zcG, _, rfl, iteT ⟨_, rfl, _, _, _, rfl, .old (.bl b), T.za9, _, rfl, q⟩⟩
  | str z => exact ⟨_, rfl, _, _, _, rfl, .old (.str z), T.zco, _, rfl, iteF q⟩
  | int i => exact ⟨_, rfl, _, _, _, rfl, .old (.int i), T.zcn, _, rfl, iteT ⟨_, rfl, _, _, _, rfl, .old (.int i), T.zbV, _, rfl, q⟩⟩
  | _ => exact absurd (show false = true from fx) Bool.false_ne_true
theorem zhC : ∀ {ys : List V} {ws : List Int}, eqVs ys (ws.map V.int) = true → ys.all isI = true → ys = ws.map V.int
  | [], [], _, _ => rfl
  | [], w :: ws, h, _ => by cases h
  | y :: ys, [], h, _ => by cases h
  | y :: ys, w :: ws, h, a => by
    rw [List.map_cons] at h
    have h : (eqV y (.int w) && eqVs ys (ws.map V.int)) = true := h
    rw [Bool.and_eq_true] at h
    rw [List.all_cons, Bool.and_eq_true] at a
    rw [List.map_cons, zhC h.2 a.2]
    congr 1
    cases y with
    | int i =>
      have e : (i == w) = true := h.1
      rw [beq_iff_eq] at e
      rw [e]
    | _ => exact absurd (show false = true from a.1) Bool.false_ne_true
theorem zfy : ∀ ws : List Int, eqVs (ws.map V.int) (ws.map V.int) = true ∧ (ws.map V.int).all isI = true
  | [] => ⟨rfl, rfl⟩
  | w :: ws => by
    obtain ⟨a, b⟩ := zfy ws
    refine ⟨?_, ?_⟩
    · rw [List.map_cons]
      show (eqV (.int w) (.int w) && eqVs (ws.map V.int) (ws.map V.int)) = true
      rw [a]
      show ((w == w) && true) = true
      simp
    · rw [List.map_cons, List.all_cons, b]
      rfl
theorem zko (ys : List V) (ws : List Int) : okN ys ws = (eqVs ys (ws.map V.int) && ys.all isI) := by
  cases e : okN ys ws with
  | true =>
    rw [zhB e, (zfy ws).1, (zfy ws).2]
    rfl
  | false =>
    cases e2 : (eqVs ys (ws.map V.int) && ys.all isI) with
    | false => rfl
    | true =>
      rw [Bool.and_eq_true] at e2
      rw [zhC e2.1 e2.2, zhA] at e
      cases e
theorem Walked.at {H : Hp} {us : List V} {h : Nat} {b : Int} {c0 : Ch} {n i : Nat} {v : V} {Z : Prop} (w : Walked K H us h b c0 n) (il : i ≤ n) (e : us[i]? = some v) (z : n ≠ us.length → Z) : ∃ r, RowG K H v (b + i) (wkI h b c0 i) r ∧ (r = false → Z) ∧ (r = true → i + 1 ≤ n) := by
  by_cases lt : i < n
  · exact ⟨true, w.ok i v lt e, (fun z => by cases z), fun _ => lt⟩
  · have ein : i = n := by omega
    subst ein
    have nl := (List.getElem?_eq_some_iff.mp e).1
    rcases w.fin with f | ⟨u, eu, bad⟩
    · omega
    · rw [eu] at e
      cases e
      exact ⟨false, bad, (fun _ => z (by omega)), fun z => by cases z⟩
def zjw (K : PySem.W.Frag) : Sp := fun vs H Q _ => ∃ (l D : Addr) (us : List V) (n : Nat) (xs : List (Addr × Cl × Int)) (h b : Int), vs = [.ref l, .int h, .int b, .ref D] ∧ ChIn K H l xs ∧ 0 < h ∧ 0 ≤ b ∧ b ≤ 1000 ∧ H D = some (.lst us) ∧ Walked K H us h.toNat b (bhC [] (xs.map (·.2))) n ∧
  (n = us.length → ∀ D' H' ys, Same H H' → H D' = none → ChIn K H' D' ys → ys.map (·.2) = (runN h.toNat n b (bhC [] (xs.map (·.2)))).2 → Q (.ref D') H') ∧ (n ≠ us.length → ∀ H', Same H H' → Q .non H')
theorem zbG : FnScope ["_law_chores_here", "_law_hands", "_law_begin", "_law_rows", "_law_left", "_law_k", "_law_row", "_law_numbers"] ["_law_chores_here", "_law_hands", "_law_begin", "_law_rows"] (zad zbC) := ⟨rfl, rfl, rfl, by decide +kernel, rfl, by decide +kernel, by decide +kernel⟩
theorem zgm (D : Dfn K mg "_law_walks" zbC ["_law_chores_here", "_law_hands", "_law_begin", "_law_rows"] f fd) (T : Txt K mg c_WaitError c_NoPiece c_NoEnd) (zbl : Cal P w K mg base "_law_whole" 1 ["_law_found"] zfx) (zcg : Cal P w K mg base "_law_turn" 3 ["_law_rows", "_law_hands", "_law_turn_here"] (zgQ K)) : Cal P w K mg base "_law_walks" 4 ["_law_chores_here", "_law_hands", "_law_begin", "_law_rows"] (zjw K) := by
  refine D.cal (D.F.ok zbG (fun vs H Q E h => ?_) (fun cdv A outer s H vs Q E hr h => ?_))
  · obtain ⟨l, D, us, n, xs, h, b, rfl, _⟩ := h
    rfl
  obtain ⟨l, D0, us, n, xs, h, b, rfl, hI, h0, b0, b1, hD, W, qY, qN⟩ := h
  refine ⟨_, (zae (zc6 (i := 4) (N := ["_law_chore"]) (js := []) zbG.nd rfl rfl rfl (CompScope.of rfl rfl rfl rfl rfl (by decide +kernel) rfl rfl rfl rfl) (zaE (pv 0)) (fun _ _ _ _ _ => (zdF (zap zdM (zaq (r := rIxT K) zao (pv 0) zab (fun _ _ => rfl)) zab (zaw _)))) (fun _ _ _ _ _ => (pv 0)))
      (zae (zc2 PassesOwn.never rfl (zlp rfl T.zeH (zaa (pv 3) zac)) (zca rfl (zas (zaD (i := 5) zbG.nd rfl (Or.inl rfl)) (zas (zaD (i := 6) zbG.nd rfl (Or.inl rfl)) zbp))) (zae (zbb (PW.pt (zdB (zbK (zbI (zax (zbf (n := "tuple")) rfl T.zaN zaG (zaa (pv 6) (zaa (zch (v := .ty "tuple") rfl T.zgI zfl rfl) zac))))) (zdB (zap zis (zax zaF rfl T.zdS zcB (zaa (pv 6) zac)) zab (zaw _)) (zdA (zbK (zbI (zax (zbf (n := "list")) rfl T.zaN zaG (zaa (zaq zao (pv 6) zab (fun _ _ => rfl)) (zaa (zch (v := .ty "list") rfl T.zdI zcJ rfl) zac))))))))) (zaf (zau zcT)) zaO)
      (zae (zc1 (zal zcg (hr.mono (by decide)) rfl (zaa (pv 4) (zaa (pv 1) (zaa (zat za2 (pv 2) (pv 5)) zac)))) (zca rfl (zas (zaD (i := 7) zbG.nd rfl (Or.inl rfl)) (zas (zaD (i := 4) zbG.nd rfl (Or.inl rfl)) zbp))))
      (zae (zbb (PW.pt (zdB (zbK (zbI (zal zbl (hr.mono (by decide)) rfl (zaa (zaq zao (pv 6) zab (fun _ _ => rfl)) zac)))) (zdB (zap zis (zaq zao (pv 6) zab (fun _ _ => rfl)) (zat za2 (pv 2) (pv 5)) (zaw _)) (zdA (zap (zfT hr.units0) (zaq zao (pv 6) zab (fun _ _ => rfl)) (pv 7) (zaw _)))))) (zaf (zau zcT)) zaO)
      (zaf (zbb (zbK (zbI (zax (zfS rfl) rfl T.zmy zky (zaa (zcv (N := ["_law_one"]) (js := []) rfl (CompScope.of rfl rfl rfl rfl rfl (by decide +kernel) rfl rfl rfl rfl) (zaE (zaq zao (pv 6) zab (fun _ _ => rfl))) (fun _ _ _ _ _ => zb4) (fun _ _ _ _ _ => (zal zbl (hr.mono (by decide)) rfl (zaa (pv 0) zac)))) zac)))) (zaf (zau zcT)) zaO))))))
      (zaf (zau (pv 4))))), ?_⟩
  have ml : (xs.map fun q => V.ref q.1).length = xs.length := List.length_map _
  refine ⟨_, rfl, l, rfl, ⟨_, SqL.of hI.chs.at_⟩, ?_⟩
  refine zbg (xs := xs.map fun q => V.ref q.1) (tak xs fun k => decide (0 < k.2.2)) (itm xs fun k => V.ref k.1) (SqL.of hI.chs.at_) ?_ ?_ (zaA (by rw [ml]; exact Nat.le_trans hI.len (by decide))) (fun D1 H1 s1 nD1 hD1 => ?_)
  · intro i x Hh Q' hi sh q'
    rw [List.getElem?_map] at hi
    cases e : xs[i]? with
    | none => rw [e] at hi; cases hi
    | some k =>
      rw [e] at hi
      cases hi
      have z := q' Hh (Same.refl _)
      unfold tak at z
      rw [e] at z
      obtain ⟨k1, _⟩ := (hI.chs.ch k (List.mem_of_getElem? e)).kc
      exact ⟨_, rfl, k.1, _, _, _, rfl, rfl, SqT.of (sh _ _ k1), rfl, _, _, rfl, rfl, _, rfl, z⟩
  · intro i x Hh Q' hi _ sh q'
    rw [List.getElem?_map] at hi
    cases e : xs[i]? with
    | none => rw [e] at hi; cases hi
    | some k =>
      rw [e] at hi
      cases hi
      have z := q' Hh (Same.refl _)
      unfold itm at z
      rw [e] at z
      exact ⟨_, rfl, z⟩
  rw [ml, zcj] at hD1
  have hI1 : ChIn K H1 D1 (xs.filter fun k => decide (0 < k.2.2)) := ⟨⟨hD1, fun q hq => (hI.chs.ch q (List.mem_filter.mp hq).1).same s1⟩, Nat.le_trans (List.length_filter_le _ _) hI.len, fun q hq => hI.ok q (List.mem_filter.mp hq).1, hI.nd.sublist (List.filter_sublist.map _)⟩
  have e2 : (xs.filter fun k => decide (0 < k.2.2)).map (·.2) = bhC [] (xs.map (·.2)) := by
    rw [zfr, List.filter_map]
    rfl
  generalize hc0 : bhC [] (xs.map (·.2)) = c0 at e2 W qY
  refine ⟨_, rfl, D0, rfl, ⟨_, SqL.of (s1 _ _ hD)⟩, ?_⟩
  refine zj0 (K := K) (a := D0) (xs := us) (fun i σ H' => ∃ (l' : Addr) (xs' : List (Addr × Cl × Int)) (v5 v6 v7 : Option V), σ = [some (.ref l), some (.int h), some (.int b), some (.ref D0), some (.ref l'), v5, v6, v7] ∧ Same H H' ∧ H l' = none ∧ ChIn K H' l' xs' ∧ xs'.map (·.2) = (runN h.toNat i b c0).2 ∧ i ≤ n)
    ⟨D1, _, _, _, _, rfl, s1, nD1, hI1, e2, Nat.zero_le _⟩ (fun i σ H' _ ⟨_, _, _, _, _, _, s, _⟩ => SqL.of (s _ _ hD)) ?_ ?_
  · rintro i v σ H3 p H4 hi ⟨l', xs', v5, v6, v7, rfl, s3, nl, hI3, e3, il⟩ s4 np hp
    obtain ⟨r, G, zN, zY⟩ := W.at il hi qN
    have s04 := s3.trans s4
    have G4 := G.same s04
    have hI4 := hI3.same s4
    refine ⟨p, _, rfl, SqT.of hp, rfl, _, _, rfl, _, _, rfl, rfl, ?_⟩
    rcases G4 with ⟨⟨ty, h1, h2⟩, er⟩ | ⟨pr, zs, rfl, hpr, l2, er⟩ | ⟨pr, x, y, r2, rfl, hpr, fx, gy, er⟩
    · exact ⟨_, rfl, _, _, _, rfl, .old h1, h2, _, rfl, iteT (iteT (zN er _ s04))⟩
    · refine ⟨_, rfl, _, _, _, rfl, .old (.tup hpr), T.zaW, _, rfl, iteF ?_⟩
      refine ⟨_, rfl, pr, _, rfl, .inr (SqT.of hpr), rfl, _, rfl, ?_⟩
      rw [decide_eq_false (show ¬ V.int (zs.length : Int) = V.int 2 from fun z => l2 (by injection z with z; omega))]
      exact iteT (iteT (zN er _ s04))
    · refine ⟨_, rfl, _, _, _, rfl, .old (.tup hpr), T.zaW, _, rfl, iteF ?_⟩
      refine ⟨_, rfl, pr, _, rfl, .inr (SqT.of hpr), rfl, _, rfl, iteF ?_⟩
      rcases gy with ⟨⟨ty, h1, h2⟩, e2⟩ | ⟨m, ys, rfl, hm, l1000, fl, e2⟩
      · refine ⟨_, rfl, pr, _, _, _, rfl, rfl, SqT.of hpr, rfl, _, _, _, rfl, .old h1, h2, _, rfl, iteT ?_⟩
        rw [e2, Bool.and_false] at er
        exact zN er _ s04
      refine ⟨_, rfl, pr, _, _, _, rfl, rfl, SqT.of hpr, rfl, _, _, _, rfl, .old (.lst hm), T.zbk, _, rfl, iteF ?_⟩
      refine ⟨_, rfl, _, rfl, _, rfl, _, rfl, _, _, rfl, rfl, l', xs', h, _, rfl, hI4, by omega, fun p6 m6 D6 H6 bs6 s6 hp6 n6 nD6 mD6 h6 B6 => ?_⟩
      obtain ⟨hI6, e6⟩ := hI4.next s6 B6
      have s06 := s04.trans s6
      have ew : zbH (b + i) h.toNat xs' = wkI h.toNat b c0 i := by rw [zdQ, e3]
      rw [ew] at h6
      refine ⟨p6, _, rfl, SqT.of hp6, rfl, _, _, rfl, _, _, rfl, rfl, ?_⟩
      have hpr6 := s6 _ _ hpr
      have hm6 := s6 _ _ hm
      refine ⟨_, rfl, pr, _, _, _, rfl, rfl, SqT.of hpr6, rfl, x, rfl, fx, ?_⟩
      have nI : isI x = false → r = false := fun z => by
        rw [er]
        have : wh x (b + i) (b + i) = false := by
          cases x with
          | int _ => cases z
          | _ => rfl
        rw [this, Bool.false_and]
      cases hx : isI x with
      | false => exact ⟨_, rfl, iteT (iteT (zN (nI hx) _ s06))⟩
      | true =>
        obtain ⟨xi, rfl⟩ : ∃ xi, x = .int xi := by
          cases x with
          | int xi => exact ⟨xi, rfl⟩
          | _ => cases hx
        refine ⟨_, rfl, iteF ?_⟩
        refine ⟨_, rfl, pr, _, _, _, rfl, rfl, SqT.of hpr6, rfl, _, rfl, _, rfl, _, _, rfl, rfl, rfl, _, rfl, ?_⟩
        by_cases ex : xi = b + i
        rotate_left
        · rw [zmF ex, Bool.false_and] at er
          rw [decide_eq_false (show ¬ V.int xi = V.int (b + (i : Int)) from fun z => ex (by injection z))]
          exact iteT (iteT (zN er _ s06))
        subst ex
        rw [zfw, Bool.true_and, e2, zko] at er
        rw [decide_eq_true rfl]
        refine iteF ?_
        refine ⟨_, rfl, pr, _, _, _, rfl, rfl, SqT.of hpr6, rfl, _, rfl, m, m6, _, _, rfl, rfl, SqL.of hm6, SqL.of h6, fl, zaY _, _, rfl, ?_⟩
        cases ee : eqVs ys ((wkI h.toNat b c0 i).map V.int) with
        | false =>
          rw [ee, Bool.false_and] at er
          exact iteT (zN er _ s06)
        | true =>
          rw [ee, Bool.true_and] at er
          refine iteF ?_
          refine ⟨_, rfl, pr, _, _, _, rfl, rfl, SqT.of hpr6, rfl, m, rfl, ⟨_, SqL.of hm6⟩, ?_⟩
          refine zbg (xs := ys) (fun _ => true) (itm ys fun z => V.bl (isI z)) (SqL.of hm6) (fun i x Hh Q' hx sh q' => q' Hh (Same.refl _)) ?_ (zaA l1000) (fun D7 H7 s7 nD7 hD7 => ?_)
          · intro j z Hh Q' hj _ sh q'
            have q2 := q' Hh (Same.refl _)
            unfold itm at q2
            rw [hj] at q2
            exact ⟨_, rfl, z, rfl, List.all_eq_true.mp fl z (List.mem_of_getElem? hj), q2⟩
          rw [zcd, zdq] at hD7
          have hD7 : H7 D7 = some (.lst ((ys.map isI).map V.bl)) := by
            rw [hD7, List.map_map]
            rfl
          refine ⟨D7, _, rfl, SqL.of hD7, ?_⟩
          have ea : (ys.map isI).all id = ys.all isI := by
            rw [List.all_map]
            rfl
          rw [ea]
          cases ei : ys.all isI with
          | false =>
            rw [ei] at er
            exact ⟨_, rfl, iteT (zN er _ (s06.trans s7))⟩
          | true =>
            rw [ei] at er
            refine ⟨_, rfl, iteF ?_⟩
            refine ⟨D6, _, _, _, _, rfl, s06.trans s7, Same.free s04 nD6, hI6.same s7, ?_, zY er⟩
            rw [e6, e3, zaK, zdQ, e3]
  · rintro σ H3 ⟨l', xs', v5, v6, v7, rfl, s3, nl, hI3, e3, il⟩
    have en : n = us.length := by
      have := W.le
      omega
    refine ⟨_, rfl, qY en l' H3 xs' s3 nl hI3 ?_⟩
    rw [e3, en]
def zmH (K : PySem.W.Frag) : Sp := fun vs H Q _ => ∃ (l : Addr) (v x y : V) (xs : List (Addr × Cl × Int)) (h b : Int), vs = [.ref l, .int h, .int b, x, y, v] ∧ ChIn K H l xs ∧ 0 < h ∧ 0 ≤ b ∧ b ≤ 1000 ∧ zaM x = true ∧ zaM y = true ∧
  ((NotL K H v ∧ ∀ H', Same H H' → Q (.bl false) H') ∨ ∃ (D : Addr) (us : List V) (n : Nat), v = .ref D ∧ H D = some (.lst us) ∧ Walked K H us h.toNat b (bhC [] (xs.map (·.2))) n ∧ ∀ H', Same H H' → Q (.bl (shw h.toNat b (bhC [] (xs.map (·.2))) n us.length x y)) H')
theorem zmI {h : Nat} {b : Int} {c0 : Ch} {n len : Nat} {x y : V} (z : isI x = false) : shw h b c0 n len x y = false := by
  refine zmG fun i e => ?_
  subst e
  cases z
theorem zmJ {h : Nat} {b : Int} {c0 : Ch} {n len : Nat} {x y : V} (z : isI y = false) : shw h b c0 n len x y = false := by
  refine zkm ?_
  cases y with
  | int _ => cases z
  | _ => rfl
theorem zfe : FnScope ["_law_chores_here", "_law_hands", "_law_begin", "_law_number", "_law_turn_here", "_law_rows", "_law_left"] ["_law_chores_here", "_law_hands", "_law_begin", "_law_number", "_law_turn_here", "_law_rows"] (zad zcm) := ⟨rfl, rfl, rfl, by decide +kernel, rfl, by decide +kernel, by decide +kernel⟩
theorem zh6 (D : Dfn K mg "_law_due" zcm ["_law_chores_here", "_law_hands", "_law_begin", "_law_number", "_law_turn_here", "_law_rows"] f fd) (T : Txt K mg c_WaitError c_NoPiece c_NoEnd) (zbl : Cal P w K mg base "_law_whole" 1 ["_law_found"] zfx) (zdy : Cal P w K mg base "_law_walks" 4 ["_law_chores_here", "_law_hands", "_law_begin", "_law_rows"] (zjw K)) : Cal P w K mg base "_law_due" 5 ["_law_chores_here", "_law_hands", "_law_begin", "_law_number", "_law_turn_here", "_law_rows"] (zmH K) := by
  refine D.cal (D.F.ok zfe (fun vs H Q E h => ?_) (fun cdv A outer s H vs Q E hr h => ?_))
  · obtain ⟨l, v, x, y, xs, h, b, rfl, _⟩ := h
    rfl
  obtain ⟨l, v, x, y, xs, h, b, rfl, hI, h0, b0, b1, fx, fy, hv⟩ := h
  refine ⟨_, (zae (zbb (PW.pt (zdB (zbK (zbI (zax (zbf (n := "list")) rfl T.zaN zaG (zaa (pv 5) (zaa (zch (v := .ty "list") rfl T.zdI zcJ rfl) zac))))) (zdB (zap (zjc hr.units0) (pv 5) (zaz zac) (zaw _)) (zdB (zbK (zbI (zal zbl (hr.mono (by decide)) rfl (zaa (pv 3) zac)))) (zdA (zbK (zbI (zal zbl (hr.mono (by decide)) rfl (zaa (pv 4) zac))))))))) (zaf (zau zcz)) zaO)
      (zae (zav (i := 6) zfe.nd rfl (Or.inl rfl) (zal zdy (hr.mono (by decide)) rfl (pai (zag (pv 0) (zag (pv 1) (zag (pv 2) (zag (pv 5) zbw)))))))
      (zae (zbb (PW.pt (zdB (zap ziu (pv 6) zcT (zaw _)) (zdB (zap zis (zaq zao (zaq zaZ (pv 5) (zeP zdo zab) (fun _ _ => rfl)) zab (fun _ _ => rfl)) (pv 4) (zaw _)) (zdA (zap zd5 (pv 3) (zaq zao (zaq zaZ (pv 5) (zeP zdo zab) (fun _ _ => rfl)) zab (fun _ _ => rfl)) rfl))))) (zaf (zau zcz)) zaO)
      (zaf (zau (zc3 (zjc hr.units0) (zhq (nk := 2) (g := (gTup K 2 (zc0 (zcb 0) (zc0 (zcb 1) gNil)))) (N := ["_law_claim", "_law_much", "_law_number"]) (js := [3]) rfl (CompScopeN.of rfl rfl rfl rfl rfl (by decide +kernel) rfl rfl rfl) (fun _ _ _ _ _ hn => (zca rfl (zas (hn 0 _ _ rfl (by decide)) (zas (hn 1 _ _ rfl (by decide)) zbp)))) (zaE (pv 6)) (fun _ _ _ _ _ => (zdF (zap zcA (zaq (r := rIxT K) zao (pv 0) zab (fun _ _ => rfl)) (pv 2) (zaw _)))) (fun _ _ _ _ _ => (pv 0))) (zaz zac) (zaw _))))))), ?_⟩
  rcases hv with ⟨⟨ty, h1, h2⟩, q⟩ | ⟨D0, us, n, rfl, hD, W, q⟩
  · exact ⟨_, rfl, _, _, _, rfl, .old h1, h2, _, rfl, iteT (iteT (q H (Same.refl _)))⟩
  refine ⟨_, rfl, _, _, _, rfl, .old (.lst hD), T.zbk, _, rfl, iteF ?_⟩
  refine ⟨_, rfl, sz 0 (by decide), fun l1 H1 s1 n1 h1 => ⟨D0, l1, _, rfl, rfl, SqL.of (s1 _ _ hD), SqL.of h1, _, rfl, ?_⟩⟩
  by_cases e0 : us = []
  · have n0 : n = 0 := by
      have := W.le
      rw [e0] at this
      exact Nat.le_zero.mp this
    rw [zkn (.inr n0)] at q
    rw [e0]
    exact iteT (iteT (q H1 s1))
  have ne : us.isEmpty = false := by
    cases us with
    | nil => exact absurd rfl e0
    | cons _ _ => rfl
  rw [ne]
  refine iteF ?_
  refine ⟨_, rfl, x, rfl, fx, ?_⟩
  cases hx : isI x with
  | false =>
    rw [zmI hx] at q
    exact ⟨_, rfl, iteT (iteT (q H1 s1))⟩
  | true =>
    refine ⟨_, rfl, iteF ?_⟩
    refine ⟨_, rfl, y, rfl, fy, ?_⟩
    cases hy : isI y with
    | false =>
      rw [zmJ hy] at q
      exact ⟨_, rfl, iteT (q H1 s1)⟩
    | true =>
      obtain ⟨i, rfl⟩ : ∃ i, x = .int i := by
        cases x with
        | int i => exact ⟨i, rfl⟩
        | _ => cases hx
      obtain ⟨j, rfl⟩ : ∃ j, y = .int j := by
        cases y with
        | int j => exact ⟨j, rfl⟩
        | _ => cases hy
      refine ⟨_, rfl, iteF ?_⟩
      refine ⟨_, rfl, _, rfl, _, rfl, _, rfl, l, D0, us, n, xs, h, b, rfl, hI.same s1, h0, b0, b1, s1 _ _ hD, W.same s1, fun en D' H2 ys s2 nD' Y ey => ?_, fun nn H2 s2 => ?_⟩
      rotate_left
      · rw [zkn (.inl nn)] at q
        exact ⟨_, rfl, rfl, _, rfl, iteT (iteT (q H2 (s1.trans s2)))⟩
      have s02 := s1.trans s2
      refine ⟨_, rfl, rfl, _, rfl, iteF ?_⟩
      have n0 : 0 < n := by
        rw [en]
        exact List.length_pos_iff.mpr e0
      have el : us[n - 1]? = some (us[n - 1]'(by omega)) := List.getElem?_eq_getElem _
      obtain ⟨pl, m, eu, hp, hm⟩ := ((W.ok (n - 1) _ (by omega) el).same s02).right
      rw [eu] at el
      have ea : atI us (-1) = some (.ref pl) := by
        have : us = us.take (n - 1) ++ [.ref pl] := by
          have e := List.take_append_drop (n - 1) us
          rw [← e]
          congr 1
          · rw [e]
          · rw [List.drop_eq_getElem_cons (by omega), List.drop_of_length_le (by omega)]
            rw [List.getElem?_eq_getElem (by omega)] at el
            injection el with el
            rw [el]
        rw [this]
        exact zeh _ _
      have hD2 := s02 _ _ hD
      refine ⟨_, rfl, _, rfl, D0, _, _, _, rfl, rfl, SqL.of hD2, ea, pl, _, _, _, rfl, rfl, SqT.of hp, rfl, _, rfl, rfl, _, rfl, ?_⟩
      by_cases ej : j = b + ((n - 1 : Nat) : Int)
      rotate_left
      · rw [zkm (zmF ej)] at q
        rw [decide_eq_false (show ¬ V.int (b + ((n - 1 : Nat) : Int)) = V.int j from fun z => ej (by injection z with z; exact z.symm))]
        exact iteT (iteT (q H2 s02))
      rw [decide_eq_true (show V.int (b + ((n - 1 : Nat) : Int)) = V.int j by rw [ej])]
      refine iteF ?_
      refine ⟨_, rfl, _, rfl, _, rfl, D0, _, _, _, rfl, rfl, SqL.of hD2, ea, pl, _, _, _, rfl, rfl, SqT.of hp, rfl, m, _, rfl, .inl (SqL.of hm), rfl, zaY _, _, rfl, ?_⟩
      rw [zeB]
      have qq : ∀ H', Same H H' → Q (.bl (decide (i ∈ wkI h.toNat b (bhC [] (xs.map (·.2))) (n - 1)) && !decide (i ∈ (runN h.toNat n b (bhC [] (xs.map (·.2)))).2.map (·.1.n)))) H' := fun H' s => by
        have z := q H' s
        unfold shw at z
        rw [decide_eq_true en, decide_eq_true (show 0 < n by omega)] at z
        dsimp only at z
        rw [decide_eq_true ej, Bool.true_and, Bool.true_and, Bool.true_and] at z
        exact z
      by_cases mem : i ∈ wkI h.toNat b (bhC [] (xs.map (·.2))) (n - 1)
      rotate_left
      · rw [decide_eq_false mem] at qq ⊢
        exact iteT (qq H2 s02)
      rw [decide_eq_true mem] at qq ⊢
      refine iteF ?_
      rw [Bool.true_and] at qq
      have my : (ys.map fun q => V.ref q.1).length = ys.length := List.length_map _
      refine ⟨_, rfl, D', rfl, ⟨_, SqL.of Y.chs.at_⟩, ?_⟩
      refine zdk (xs := ys.map fun q => V.ref q.1) (sts 2 ys fun k => [.ref (kcOf H2 k.1), .int k.2.2]) (tak ys fun k => decide (k.2.1.n = i)) (itm ys fun k => V.ref (kcOf H2 k.1)) (SqL.of Y.chs.at_) (zdr fun _ => rfl) ?_ ?_ ?_ (zaA (by rw [my]; exact Nat.le_trans Y.len (by decide))) (fun D3 H3 s3 nD3 hD3 => ?_)
      · intro j x Hh os R' hxj sh ol r'
        obtain ⟨o1, o2, rfl⟩ := len2 ol
        rw [List.getElem?_map] at hxj
        cases ek : ys[j]? with
        | none => rw [ek] at hxj; cases hxj
        | some k =>
          rw [ek] at hxj
          cases hxj
          unfold sts at r'
          rw [ek] at r'
          exact ⟨k.1, _, rfl, SqT.of (sh _ _ (Y.chs.ch k (List.mem_of_getElem? ek)).kc.1), rfl, _, _, rfl, _, _, rfl, rfl, r'⟩
      · intro j x Hh Q' hxj sh q'
        rw [List.getElem?_map] at hxj
        cases ek : ys[j]? with
        | none => rw [ek] at hxj; cases hxj
        | some k =>
          have z := q' Hh (Same.refl _)
          unfold tak at z
          unfold sts
          rw [ek] at z ⊢
          obtain ⟨_, _, c1, _, _⟩ := id (Y.chs.ch k (List.mem_of_getElem? ek)).kc.2.ex
          refine ⟨_, rfl, _, _, _, _, rfl, rfl, SqT.of (sh _ _ c1), rfl, _, rfl, rfl, _, rfl, ?_⟩
          rw [show decide (V.int k.2.1.n = V.int i) = decide (k.2.1.n = i) from decide_eq_decide.mpr ⟨fun z => by injection z, fun z => by rw [z]⟩]
          exact z
      · intro j x Hh Q' hxj _ sh q'
        rw [List.getElem?_map] at hxj
        cases ek : ys[j]? with
        | none => rw [ek] at hxj; cases hxj
        | some k =>
          have z := q' Hh (Same.refl _)
          unfold itm at z
          unfold sts
          rw [ek] at z ⊢
          exact ⟨_, rfl, z⟩
      rw [my, zcj] at hD3
      refine ⟨sz 0 (by decide), fun l4 H4 s4 n4 h4 => ⟨D3, l4, _, rfl, rfl, SqL.of (s4 _ _ hD3), SqL.of h4, ?_⟩⟩
      have em : ((ys.filter fun k => decide (k.2.1.n = i)).map fun k => V.ref (kcOf H2 k.1)).isEmpty = !decide (i ∈ (runN h.toNat n b (bhC [] (xs.map (·.2)))).2.map (·.1.n)) := by
        rw [← ey, List.map_map]
        by_cases mi : i ∈ ys.map ((fun x : Cl × Int => x.1.n) ∘ fun x => x.2)
        · rw [decide_eq_true mi]
          obtain ⟨z, hz, ez⟩ := List.mem_map.mp mi
          have : z ∈ ys.filter fun k => decide (k.2.1.n = i) := List.mem_filter.mpr ⟨hz, decide_eq_true ez⟩
          cases ef : ys.filter fun k => decide (k.2.1.n = i) with
          | nil => rw [ef] at this; cases this
          | cons _ _ => rfl
        · rw [decide_eq_false mi]
          have : (ys.filter fun k => decide (k.2.1.n = i)) = [] := by
            rw [List.filter_eq_nil_iff]
            intro z hz ez
            exact mi (List.mem_map.mpr ⟨z, hz, of_decide_eq_true ez⟩)
          rw [this]
          rfl
      rw [em]
      exact qq H4 (s02.trans (s3.trans s4))
def zlE (K : PySem.W.Frag) (tT : Addr) : Sp := fun vs H Q _ => ∃ (l : Addr) (v x y : V) (xs : List (Addr × Cl × Int)) (h b : Int), vs = [.ref l, .int h, .int b, x, y, v] ∧ ChIn K H l xs ∧ 0 < h ∧ 0 ≤ b ∧ b ≤ 1000 ∧ H tT = some (.tbl zcV lamQ) ∧ zaM x = true ∧ zaM y = true ∧
  (NotL K H v ∨ ∃ (D : Addr) (us : List V) (n : Nat), v = .ref D ∧ H D = some (.lst us) ∧ Walked K H us h.toNat b (bhC [] (xs.map (·.2))) n) ∧ ∀ H', Same H H' → Q (.bl true) H'
theorem zde : FnScope ["_law_chores_here", "_law_hands", "_law_begin", "_law_number", "_law_turn_here", "_law_rows", "_law_found", "_law_due_here"] ["_law_chores_here", "_law_hands", "_law_begin", "_law_number", "_law_turn_here", "_law_rows"] (zad zbD) := ⟨rfl, rfl, rfl, by decide +kernel, rfl, by decide +kernel, by decide +kernel⟩
theorem zgn (D : Dfn K mg "_law_asked" zbD ["_law_chores_here", "_law_hands", "_law_begin", "_law_number", "_law_turn_here", "_law_rows"] f fd) (T : Txt K mg c_WaitError c_NoPiece c_NoEnd) (zbe : Cal P w K mg base "shows_latest" 11 ["chores", "hands", "begin", "number", "turn", "rows"] (zgV K tT)) (zeL : Cal P w K mg base "_law_due" 5 ["_law_chores_here", "_law_hands", "_law_begin", "_law_number", "_law_turn_here", "_law_rows"] (zmH K)) : Cal P w K mg base "_law_asked" 12 ["_law_chores_here", "_law_hands", "_law_begin", "_law_number", "_law_turn_here", "_law_rows"] (zlE K tT) := by
  refine D.cal (D.F.ok zde (fun vs H Q E h => ?_) (fun cdv A outer s H vs Q E hr h => ?_))
  · obtain ⟨l, v, x, y, xs, h, b, rfl, _⟩ := h
    rfl
  obtain ⟨l, v, x, y, xs, h, b, rfl, hI, h0, b0, b1, hT, fx, fy, hv, q⟩ := h
  refine ⟨_, (zae (zav (i := 6) zde.nd rfl (Or.inl rfl) (zal zbe (hr.mono (by decide)) rfl (pai (zag (pv 0) (zag (pv 1) (zag (pv 2) (zag (pv 3) (zag (pv 4) (zag (pv 5) zbw)))))))))
      (zae (zav (i := 7) zde.nd rfl (Or.inl rfl) (zal zeL (hr.mono (by decide)) rfl (pai (zag (pv 0) (zag (pv 1) (zag (pv 2) (zag (pv 3) (zag (pv 4) (zag (pv 5) zbw)))))))))
      (zaf (zau (zg7 (zax (zbf (n := "bool")) rfl T.zaN zaG (zaa (pv 6) (zaa (zch (v := .ty "bool") rfl T.zjm zgA rfl) zac))) (zg6 (zc3 zcA (pv 6) (pv 7) (zaw _)))))))), ?_⟩
  rcases hv with nl | ⟨D0, us, n, rfl, hD, W⟩
  · refine ⟨_, rfl, _, rfl, _, rfl, _, rfl, _, rfl, _, rfl, l, v, x, y, xs, h, b, rfl, hI, h0, b0, b1, hT, fx, fy, .inl ⟨nl, fun H1 s1 => ?_⟩⟩
    refine ⟨_, rfl, _, rfl, _, rfl, _, rfl, _, rfl, _, rfl, l, v, x, y, xs, h, b, rfl, hI.same s1, h0, b0, b1, fx, fy, .inl ⟨nl.same s1, fun H2 s2 => ?_⟩⟩
    refine ⟨_, rfl, _, _, _, rfl, .old (.bl _), T.za9, _, rfl, iteT ?_⟩
    refine ⟨_, rfl, _, rfl, rfl, ?_⟩
    rw [decide_eq_true rfl]
    exact q H2 (s1.trans s2)
  · refine ⟨_, rfl, _, rfl, _, rfl, _, rfl, _, rfl, _, rfl, l, _, x, y, xs, h, b, rfl, hI, h0, b0, b1, hT, fx, fy, .inr ⟨D0, us, n, rfl, hD, W, fun H1 s1 => ?_⟩⟩
    refine ⟨_, rfl, _, rfl, _, rfl, _, rfl, _, rfl, _, rfl, l, _, x, y, xs, h, b, rfl, hI.same s1, h0, b0, b1, fx, fy, .inr ⟨D0, us, n, rfl, s1 _ _ hD, W.same s1, fun H2 s2 => ?_⟩⟩
    refine ⟨_, rfl, _, _, _, rfl, .old (.bl _), T.za9, _, rfl, iteT ?_⟩
    refine ⟨_, rfl, _, rfl, rfl, ?_⟩
    rw [decide_eq_true rfl]
    exact q H2 (s1.trans s2)
theorem zhD {H4 : Hp} {D4 : Addr} {rs : List (Addr × Addr × Int × List Int)} {bs : List (Addr × Addr)} (hD4 : H4 D4 = some (.lst (bs.map fun b => V.ref b.1))) (lb : bs.length = rs.length)
    (hb : ∀ (i : Nat) b, bs[i]? = some b → H4 b.1 = some (.tup [itm rs (fun r => V.int r.2.2.1) i, .ref b.2]) ∧ H4 b.2 = some (.lst (itl rs (fun r => r.2.2.2.map V.int) i))) :
    ∃ ks : List (Addr × Addr × Int × List Int), IsRun H4 D4 ks ∧ zbo ks = zbo rs := by
  refine ⟨List.zipWith (fun b r => (b.1, b.2, r.2.2)) bs rs, ?_, ?_⟩
  · have mem : ∀ k, k ∈ List.zipWith (fun (b : Addr × Addr) (r : Addr × Addr × Int × List Int) => (b.1, b.2, r.2.2)) bs rs → ∃ (i : Nat) (b : Addr × Addr) (r : Addr × Addr × Int × List Int), bs[i]? = some b ∧ rs[i]? = some r ∧ k = (b.1, b.2, r.2.2) := fun k hk => by
      obtain ⟨i, hi, ei⟩ := List.getElem_of_mem hk
      have hi2 : i < bs.length ∧ i < rs.length := by
        rw [List.length_zipWith] at hi
        omega
      exact ⟨i, bs[i], rs[i], List.getElem?_eq_getElem hi2.1, List.getElem?_eq_getElem hi2.2, by rw [← ei, List.getElem_zipWith]⟩
    refine ⟨?_, fun k hk => ?_, fun k hk => ?_⟩
    · rw [hD4, List.map_zipWith]
      congr 2
      refine List.ext_getElem (by simp [lb]) fun i h1 h2 => ?_
      simp
    · obtain ⟨i, b', r, e1, e2, rfl⟩ := mem k hk
      have := (hb i b' e1).1
      unfold itm at this
      rw [e2] at this
      exact this
    · obtain ⟨i, b', r, e1, e2, rfl⟩ := mem k hk
      have := (hb i b' e1).2
      unfold itl at this
      rw [e2] at this
      exact this
  · unfold zbo
    rw [List.map_zipWith]
    refine List.ext_getElem (by simp [lb]) fun i h1 h2 => ?_
    simp
theorem zhE (xs : List V) (n : Nat) : cutV xs (some (n : Int)) none = xs.drop n := by
  unfold cutV
  rw [HT.sIx_none, HT.sIx_nat]
  by_cases l : n ≤ xs.length
  · rw [Nat.min_eq_left l, List.take_of_length_le (by rw [List.length_drop]; omega)]
  · rw [Nat.min_eq_right (by omega), List.drop_length, List.drop_of_length_le (by omega), List.take_nil]
theorem zlF {α : Type} {xs : List α} {k : Nat} {y u : α} (h : u ∈ xs.take k ++ y :: xs.drop k) : u ∈ xs ∨ u = y := by
  rcases List.mem_append.mp h with h | h
  · exact .inl (List.mem_of_mem_take h)
  · rcases List.mem_cons.mp h with h | h
    · exact .inr h
    · exact .inl (List.mem_of_mem_drop h)
def Shp (H : Hp) (u : V) : Prop := ∃ p x m rest ys, u = .ref p ∧ H p = some (.tup (x :: .ref m :: rest)) ∧ zaM x = true ∧ (H m = some (.lst ys) ∨ H m = some (.tup ys)) ∧ ys.length ≤ 1000 ∧ ys.all zaM = true
theorem Shp.same {H H' : Hp} {u : V} (s : Same H H') (h : Shp H u) : Shp H' u := let ⟨p, x, m, rest, ys, a, b, c, d, e⟩ := h; ⟨p, x, m, rest, ys, a, s _ _ b, c, d.imp (s _ _) (s _ _), e⟩
theorem Shp.but {H H' : Hp} {u : V} {F : Addr} {vs : List V} (k : But F H H') (hF : H F = some (.lst vs)) (nf : vs.all zaM = false) (h : Shp H u) : Shp H' u := by
  obtain ⟨p, x, m, rest, ys, a, b, c, d, e, f⟩ := h
  refine ⟨p, x, m, rest, ys, a, k _ _ (fun z => by rw [z, hF] at b; cases b) b, c, ?_, e, f⟩
  rcases d with d | d
  · refine .inl (k _ _ (fun z => ?_) d)
    rw [z, hF] at d
    cases d
    rw [f] at nf
    cases nf
  · exact .inr (k _ _ (fun z => by rw [z, hF] at d; cases d) d)
theorem Shp.row {c_WaitError c_NoPiece c_NoEnd : Addr} {H : Hp} {u : V} (T : Txt K mg c_WaitError c_NoPiece c_NoEnd) (h : Shp H u) (t : Int) (ws : List Int) : ∃ r, RowG K H u t ws r := by
  obtain ⟨p, x, m, rest, ys, rfl, b, c, d, e, f⟩ := h
  cases rest with
  | nil =>
    rcases d with d | d
    · exact ⟨_, .inr (.inr ⟨p, x, _, okN ys ws, rfl, b, c, .inr ⟨m, ys, rfl, d, e, f, rfl⟩, rfl⟩)⟩
    · exact ⟨_, .inr (.inr ⟨p, x, _, false, rfl, b, c, .inl ⟨⟨_, .tup d, T.zbF⟩, rfl⟩, rfl⟩)⟩
  | cons z zs => exact ⟨false, .inr (.inl ⟨p, _, rfl, b, by simp, rfl⟩)⟩
theorem zjx {H : Hp} {D : Addr} {rs : List (Addr × Addr × Int × List Int)} (R : IsRun H D rs) (l : ∀ r, r ∈ rs → r.2.2.2.length ≤ 40) : ∀ u, u ∈ (rs.map fun r => V.ref r.1) → Shp H u := fun u hu => by
  obtain ⟨r, hr, rfl⟩ := List.mem_map.mp hu
  exact ⟨r.1, _, r.2.1, [], _, rfl, R.row r hr, rfl, .inl (R.num r hr), by rw [List.length_map]; have := l r hr; omega, zaY _⟩
def tvI (n : Int) : V := if n = 1 then .bl true else if n = 0 then .bl false else .int n
theorem zni (y : Int) : atI [V.int y, V.bl true, V.bl false] ((if decide (V.int y = V.int 1) = true then 1 else 0) + 2 * (if decide (V.int y = V.int 0) = true then 1 else 0)) = some (tvI y) := by
  unfold tvI
  by_cases e : y = 1
  · subst e
    rfl
  · rw [if_neg e, decide_eq_false (show ¬ V.int y = V.int 1 from fun z => e (by injection z))]
    by_cases e0 : y = 0
    · subst e0
      rfl
    · rw [if_neg e0, decide_eq_false (show ¬ V.int y = V.int 0 from fun z => e0 (by injection z))]
      rfl
theorem zlG (ws : List Int) : (ws.map tvI).all zaM = true := List.all_eq_true.mpr fun v hv => by
  obtain ⟨i, _, rfl⟩ := List.mem_map.mp hv
  unfold tvI
  split
  · rfl
  · split <;> rfl
def zkY (K : PySem.W.Frag) : Sp := fun vs H Q _ => ∃ (R F : Addr) (rs qs : List (Addr × Addr × Int × List Int)) (c : Int), vs = [.ref R, .ref F, .int c] ∧ IsRun H R rs ∧ IsRun H F qs ∧ (∀ r, r ∈ rs → r.2.2.2.length ≤ 40) ∧ (∀ r, r ∈ qs → r.2.2.2.length ≤ 40) ∧ rs.length ≤ 1481 ∧ qs.length ≤ 1481 ∧ rs ≠ [] ∧ (∀ r, r ∈ rs → 0 ≤ r.2.2.1) ∧
  ∀ D us H', Same H H' → H' D = some (.lst us) → us.length ≤ 3000 → (∀ u, u ∈ us → Shp H' u) → Q (.ref D) H'
theorem zbm : FnScope ["_law_rows", "_law_full", "_law_cell_here", "_law_found", "_law_way", "_law_at", "_law_turn_here", "_law_numbers"] ["_law_rows", "_law_full", "_law_cell_here"] (zad zbU) := ⟨rfl, rfl, rfl, by decide +kernel, rfl, by decide +kernel, by decide +kernel⟩
theorem zgW (D : Dfn K mg "_law_bent" zbU ["_law_rows", "_law_full", "_law_cell_here"] f fd) (T : Txt K mg c_WaitError c_NoPiece c_NoEnd) (zam : Cal P w K mg base "_law_draw" 2 ["_law_cell_here", "_law_k", "_law_many"] zdV) : Cal P w K mg base "_law_bent" 3 ["_law_rows", "_law_full", "_law_cell_here"] (zkY K) := by
  refine D.cal (D.F.ok zbm (fun vs H Q E h => ?_) (fun cdv A outer s H vs Q E hr h => ?_))
  · obtain ⟨R, F, rs, qs, c, rfl, _⟩ := h
    rfl
  obtain ⟨R, F, rs, qs, c, rfl, hR, hF, l1, l2, l3, l4, rne, tp, q⟩ := h
  refine ⟨_, (zae (zdj (i := 3) (nk := 2) (g := (gTup K 2 (zc0 (zcb 0) (zc0 (zcb 1) gNil)))) (N := ["_law_turn_here", "_law_numbers"]) (js := []) zbm.nd rfl rfl rfl (CompScopeN.of rfl rfl rfl rfl rfl (by decide +kernel) rfl rfl rfl) (fun _ _ _ _ _ hn => (zca rfl (zas (hn 0 _ _ rfl (by decide)) (zas (hn 1 _ _ rfl (by decide)) zbp)))) (zaE (pv 0)) (fun _ _ _ _ _ => zb4) (fun _ _ _ _ _ => (zaB (zaa (pv 0) (zaa (zbs (zdm (K := K) rfl) rfl T.zdI zcJ (zaa (pv 1) zac)) zac)))))
      (zae (zav (i := 4) zbm.nd rfl (Or.inl rfl) (zal zam (hr.mono (by decide)) rfl (zaa (pv 2) (zaa zab (zaa zab zac)))))
      (zae (zav (i := 5) zbm.nd rfl (Or.inl rfl) (zal zam (hr.mono (by decide)) rfl (zaa (pv 2) (zaa zab (zaa (zax zaF rfl T.zdS zcB (zaa (pv 3) zac)) zac)))))
      (zae (zc1 (zaq zaZ (pv 3) (pv 5) (fun _ _ => rfl)) (zca rfl (zas (zaD (i := 6) zbm.nd rfl (Or.inl rfl)) (zas (zaD (i := 7) zbm.nd rfl (Or.inl rfl)) zbp))))
      (zfn (zbb (zap zcA (pv 4) zab (zaw _)) (zaf (zcZ (zgz PySem.F.plainAttrs_list PySem.F.slot_list_pop PySem.F.type_list_pop ziY (pv 3) (zaa (pv 5) zac)))) (zaf (zbb (zap zcA (pv 4) zab (zaw _)) (zaf (zcZ (zgz PySem.F.plainAttrs_list PySem.F.slot_list_insert PySem.F.type_list_insert ziX (pv 3) (zaa (pv 5) (zaa (zaB (zaa (pv 6) (zaa (zaz zac) zac))) zac))))) (zaf (zbb (zap zcA (pv 4) zab (zaw _)) (zaf (zcZ (zgz PySem.F.plainAttrs_list PySem.F.slot_list_insert PySem.F.type_list_insert ziX (pv 3) (zaa (pv 5) (zaa (zaB (zaa (pv 6) (zaa (zbs zfX rfl T.zdI zcJ (zaa (pv 7) zac)) zac))) zac))))) (zaf (zbb (zap zcA (pv 4) zab (zaw _)) (zaf (zc1 (zaB (zaa (zat za2 (pv 6) (zaq zaZ (zaz (zaa zab (zaa (zeP zdo zab) zac))) (zat zcU (pv 2) zab) (fun _ _ => rfl))) (zaa (pv 7) zac))) (ze0 (pv 3) (pv 5) zcC))) (zaf (zbb (zap zcA (pv 4) zab (zaw _)) (zaf (zc1 (zaB (zaa (pv 6) (zaa (zlC (pv 7) (zbM (zeP zdo zab))) zac))) (ze0 (pv 3) (pv 5) zcC))) (zaf (zbb (zap zcA (pv 4) zab (zaw _)) (zaf (zc1 (zaB (zaa (pv 6) (zaa (zat zc5 (pv 7) (zaz (zaa zab zac))) zac))) (ze0 (pv 3) (pv 5) zcC))) (zaf (zbb (zap zcA (pv 4) zab (zaw _)) (zaf (zc1 (zaB (zaa (pv 6) (zaa (zbv zb2 (pv 7) zb7 (zbM (zeP zdo zab))) zac))) (ze0 (pv 3) (pv 5) zcC))) (zaf (zbb (zap zcA (pv 4) zab (zaw _)) (zaf (zc1 (zaB (zaa (pv 6) (zaa (zbs ziW rfl T.zgI zfl (zaa (pv 7) zac)) zac))) (ze0 (pv 3) (pv 5) zcC))) (zaf (zbb (zap zcA (pv 4) zab (zaw _)) (zaf (zau (zat zc5 (zat zc5 (zbv zb2 (pv 3) zb7 (zbM (pv 5))) (zaz (zaa (zaB (zaa (pv 6) (zaa (pv 7) (zaa zab zac)))) zac))) (zbv zb2 (pv 3) (zbM (zat za2 (pv 5) zab)) zb7)))) (zaf (zbb (zap zcA (pv 4) zab (zaw _)) (zaf (zav (i := 3) zbm.nd rfl (Or.inl rfl) (zbv zb2 (pv 3) zb7 (zbM (pv 5))))) (zaf (zbb (zap zcA (pv 4) zab (zaw _)) (zaf (zdj (i := 3) (nk := 2) (g := (gTup K 2 (zc0 (zcb 0) (zc0 (zcb 1) gNil)))) (N := ["_law_turn_here", "_law_numbers"]) (js := []) zbm.nd rfl rfl rfl (CompScopeN.of rfl rfl rfl rfl rfl (by decide +kernel) rfl rfl rfl) (fun _ _ _ _ _ hn => (zca rfl (zas (hn 0 _ _ rfl (by decide)) (zas (hn 1 _ _ rfl (by decide)) zbp)))) (zaE (pv 1)) (fun _ _ _ _ _ => zb4) (fun _ _ _ _ _ => (zaB (zaa (pv 0) (zaa (zbs (zdm (K := K) rfl) rfl T.zdI zcJ (zaa (pv 1) zac)) zac)))))) (zaf (zbb (zap zcA (pv 4) zab (zaw _)) (zaf (zcZ (zgz PySem.F.plainAttrs_list PySem.F.slot_list_append PySem.F.type_list_append zdi (pv 3) (zaa (zaB (zaa (zat za2 (zaq zao (zaq zaZ (pv 3) (zeP zdo zab) (fun _ _ => rfl)) zab (fun _ _ => rfl)) zab) (zaa (zaz zac) zac))) zac)))) (zaf (zbb (zap zcA (pv 4) zab (zaw _)) (zaf (zc1 (zaB (zaa (pv 6) (zaa (zcv (N := ["_law_one"]) (js := []) rfl (CompScope.of rfl rfl rfl rfl rfl (by decide +kernel) rfl rfl rfl rfl) (zaE (pv 7)) (fun _ _ _ _ _ => zb4) (fun _ _ _ _ _ => (zaq (r := rIxL K) zaZ (zaz (zaa (pv 0) (zaa zcz (zaa zcz zac)))) (zat za2 (zbs zdC rfl T.zh3 ze4 (zaa (zc3 zcA (pv 0) zab (zaw _)) zac)) (zat zb3 zab (zbs zdC rfl T.zh3 ze4 (zaa (zc3 zcA (pv 0) zab (zaw _)) zac)))) (fun _ _ => rfl)))) zac))) (ze0 (pv 3) (pv 5) zcC))) (zaf (zbb (PW.pt (zfD (zap zcA (pv 4) zab (zaw _)) (zen (zap zk4 (pv 6) zab (zaw _))))) (zaf (zau (zat zc5 (zat zc5 (zbv zb2 (pv 3) zb7 (zbM (pv 5))) (zaz (zaa (zaB (zaa (zaq zaZ (zaz (zaa zcz (zaa zcz zac))) (pv 6) (fun _ _ => rfl)) (zaa (pv 7) zac))) zac))) (zbv zb2 (pv 3) (zbM (zat za2 (pv 5) zab)) zb7)))) zaO)))))))))))))))))))))))))))
      (zaf (zau (pv 3)))))))), ?_⟩
  have big : 100000 ≤ sizeLine := by decide
  refine ⟨_, rfl, R, rfl, ⟨_, SqL.of hR.at_⟩, ?_⟩
  refine zfd (xs := rs.map fun r => V.ref r.1) (sts 2 rs fun r => [.int r.2.2.1, .ref r.2.1]) (itm rs fun r => V.int r.2.2.1) (itl rs fun r => r.2.2.2.map V.int) (SqL.of hR.at_) (zdr fun _ => rfl) ?_ (fun i x Hh Q' hx sh q' => q' Hh (Same.refl _)) ?_ (by rw [List.length_map]; omega) (fun D1 H1 bs s1 nD1 hD4 lb hb => ?_)
  · intro j x Hh os R' hxj sh ol r'
    obtain ⟨o1, o2, rfl⟩ := len2 ol
    rw [List.getElem?_map] at hxj
    cases er : rs[j]? with
    | none => rw [er] at hxj; cases hxj
    | some r =>
      rw [er] at hxj
      cases hxj
      unfold sts at r'
      rw [er] at r'
      exact ⟨r.1, _, rfl, SqT.of (sh _ _ (hR.row r (List.mem_of_getElem? er))), rfl, _, _, rfl, _, _, rfl, rfl, r'⟩
  · intro j x Hh Q' hj sh q'
    rw [List.getElem?_map] at hj
    cases er : rs[j]? with
    | none => rw [er] at hj; cases hj
    | some r =>
      rw [er] at hj
      cases hj
      unfold sts
      unfold itm itl at q'
      rw [er] at q' ⊢
      refine ⟨_, rfl, _, rfl, r.2.1, _, rfl, .inl (SqL.of (sh _ _ (hR.num r (List.mem_of_getElem? er)))), fun m Ha sa na ha => ⟨sz 2 (by decide), fun p Hb sb nb hb' => q' p m Hb (sa.trans sb) na hb' (sb _ _ ha)⟩⟩
  rw [List.length_map] at lb
  obtain ⟨ks, K1, ek⟩ := zhD hD4 lb hb
  have mk : (ks.map fun r => V.ref r.1).length = ks.length := List.length_map _
  have lks : ks.length = rs.length := by
    have := congrArg List.length ek
    rw [List.length_map, List.length_map] at this
    exact this
  have rl : 0 < rs.length := List.length_pos_iff.mpr rne
  have lk40 : ∀ r, r ∈ ks → r.2.2.2.length ≤ 40 ∧ 0 ≤ r.2.2.1 := fun r hr => by
    have : (r.2.2.1, r.2.2.2) ∈ zbo rs := by
      rw [← ek]
      exact List.mem_map.mpr ⟨r, hr, rfl⟩
    obtain ⟨r', hr', e⟩ := List.mem_map.mp this
    have e1 : r'.2.2.2 = r.2.2.2 := congrArg Prod.snd e
    have e2 : r'.2.2.1 = r.2.2.1 := congrArg Prod.fst e
    rw [← e1, ← e2]
    exact ⟨l1 r' hr', tp r' hr'⟩
  refine ⟨_, rfl, c, _, _, rfl, by decide, by decide, fun way w0 w1 => ?_⟩
  refine ⟨_, rfl, _, rfl, D1, _, rfl, .inl (SqL.of K1.at_), c, _, _, rfl, by decide, by rw [mk]; omega, fun at' a0 a1 => ?_⟩
  rw [mk] at a1
  obtain ⟨k, rfl⟩ : ∃ k : Nat, at' = (k : Int) := ⟨at'.toNat, by omega⟩
  have kl : k < ks.length := by omega
  clear a0 a1
  obtain ⟨x, ex⟩ : ∃ x, ks[k]? = some x := ⟨_, List.getElem?_eq_getElem kl⟩
  have hx := List.mem_of_getElem? ex
  have exV : (ks.map fun r => V.ref r.1)[k]? = some (.ref x.1) := by rw [List.getElem?_map, ex]; rfl
  refine ⟨_, rfl, _, rfl, D1, _, _, _, rfl, rfl, SqL.of K1.at_, zdN exV, x.1, _, rfl, SqT.of (K1.row x hx), rfl, _, _, rfl, _, _, rfl, rfl, ?_⟩
  have nf : (ks.map fun r => V.ref r.1).all zaM = false := by
    rw [List.all_eq_false]
    exact ⟨_, List.mem_of_getElem? exV, Bool.false_ne_true⟩
  have sh1 := zjx K1 fun r hr => (lk40 r hr).1
  have hm1 := K1.num x hx
  obtain ⟨x40, x0⟩ := lk40 x hx
  have mx : (x.2.2.2.map V.int).length = x.2.2.2.length := List.length_map _
  refine ⟨fun σ' H' => ∃ (F' : Addr) (us : List V), σ' = [some (.ref R), some (.ref F), some (.int c), some (.ref F'), some (.int way), some (.int k), some (.int x.2.2.1), some (.ref x.2.1)] ∧ Same H H' ∧ H' F' = some (.lst us) ∧ us.length ≤ 3000 ∧ ∀ u, u ∈ us → Shp H' u, ?_, ?_⟩
  rotate_left
  · rintro σ' H' ⟨F', us, rfl, s', h', lu, al⟩
    exact ⟨_, rfl, q F' us H' s' h' lu al⟩
  have ix : ixN (ks.map fun r => V.ref r.1).length (k : Int) = some k := by rw [zmc (by omega) (by rw [mk]; omega), Int.toNat_natCast]
  have small : (ks.map fun r => V.ref r.1).length ≤ 1481 := by rw [mk]; omega
  have put : ∀ {H2 H3 : Hp} {v : V}, Same H1 H2 → But D1 H2 H3 → Shp H2 v → H3 D1 = some (.lst ((ks.map fun r => V.ref r.1).set k v)) → Same H H3 ∧ H3 D1 = some (.lst ((ks.map fun r => V.ref r.1).set k v)) ∧ ((ks.map fun r => V.ref r.1).set k v).length ≤ 3000 ∧ ∀ u, u ∈ (ks.map fun r => V.ref r.1).set k v → Shp H3 u := by
    intro H2 H3 v s2 k3 hv h3
    refine ⟨(s1.trans s2).but nD1 k3, h3, by rw [List.length_set]; omega, fun u hu => ?_⟩
    rcases List.mem_or_eq_of_mem_set hu with hu | rfl
    · exact ((sh1 u hu).same s2).but k3 (s2 _ _ K1.at_) nf
    · exact hv.but k3 (s2 _ _ K1.at_) nf
  have ins : ∀ {H2 H3 : Hp} {v : V}, Same H1 H2 → But D1 H2 H3 → Shp H2 v → H3 D1 = some (.lst ((ks.map fun r => V.ref r.1).take (k : Int).toNat ++ v :: (ks.map fun r => V.ref r.1).drop (k : Int).toNat)) → Same H H3 ∧ H3 D1 = some (.lst ((ks.map fun r => V.ref r.1).take (k : Int).toNat ++ v :: (ks.map fun r => V.ref r.1).drop (k : Int).toNat)) ∧ ((ks.map fun r => V.ref r.1).take (k : Int).toNat ++ v :: (ks.map fun r => V.ref r.1).drop (k : Int).toNat).length ≤ 3000 ∧ ∀ u, u ∈ (ks.map fun r => V.ref r.1).take (k : Int).toNat ++ v :: (ks.map fun r => V.ref r.1).drop (k : Int).toNat → Shp H3 u := by
    intro H2 H3 v s2 k3 hv h3
    refine ⟨(s1.trans s2).but nD1 k3, h3, ?_, fun u hu => ?_⟩
    · rw [List.length_append, List.length_cons, List.length_take, List.length_drop]
      omega
    rcases zlF hu with hu | rfl
    · exact ((sh1 u hu).same s2).but k3 (s2 _ _ K1.at_) nf
    · exact hv.but k3 (s2 _ _ K1.at_) nf
  have swap : ∀ {H2 : Hp} {v : V}, Same H1 H2 → Shp H2 v → ∀ u, u ∈ (ks.map fun r => V.ref r.1).take k ++ [v] ++ (ks.map fun r => V.ref r.1).drop (k + 1) → Shp H2 u := by
    intro H2 v s2 hv u hu
    rw [List.append_assoc] at hu
    rcases List.mem_append.mp hu with hu | hu
    · exact (sh1 u (List.mem_of_mem_take hu)).same s2
    · rcases List.mem_cons.mp hu with rfl | hu
      · exact hv
      · exact (sh1 u (List.mem_of_mem_drop hu)).same s2
  refine ⟨_, rfl, rfl, _, rfl, ?_⟩
  by_cases e0 : way = 0
  · rw [decide_eq_true (show V.int way = V.int 0 by rw [e0])]
    refine iteT ?_
    refine ⟨_, rfl, .inl ⟨rfl, _, SqL.of K1.at_⟩, _, rfl, D1, _, _, k, _, rfl, rfl, K1.at_, ix, exV, fun H2 k2 h2 => ⟨D1, _, rfl, s1.but nD1 k2, h2, ?_, fun u hu => (sh1 u (List.mem_of_mem_eraseIdx hu)).but k2 K1.at_ nf⟩⟩
    rw [List.length_eraseIdx]
    split <;> omega
  rw [decide_eq_false (show ¬ V.int way = V.int 0 from fun z => e0 (by injection z))]
  refine iteF ?_
  refine ⟨_, rfl, rfl, _, rfl, ?_⟩
  by_cases e1 : way = 1
  · rw [decide_eq_true (show V.int way = V.int 1 by rw [e1])]
    refine iteT ?_
    exact ⟨_, rfl, .inl ⟨rfl, _, SqL.of K1.at_⟩, _, rfl, _, rfl, sz 0 (by decide), fun m2 H2 s2 n2 h2 => ⟨sz 2 (by decide), fun p3 H3 s3 n3 h3 => ⟨D1, _, _, _, rfl, rfl, (s2.trans s3) _ _ K1.at_, by omega, by rw [mk]; omega, by omega, fun H4 k4 h4 => ⟨D1, _, rfl, ins (s2.trans s3) k4 ⟨p3, _, m2, [], [], rfl, h3, rfl, .inl (s3 _ _ h2), by decide, rfl⟩ h4⟩⟩⟩⟩
  rw [decide_eq_false (show ¬ V.int way = V.int 1 from fun z => e1 (by injection z))]
  refine iteF ?_
  refine ⟨_, rfl, rfl, _, rfl, ?_⟩
  by_cases e2 : way = 2
  · rw [decide_eq_true (show V.int way = V.int 2 by rw [e2])]
    refine iteT ?_
    exact ⟨_, rfl, .inl ⟨rfl, _, SqL.of K1.at_⟩, _, rfl, _, rfl, _, rfl, x.2.1, _, rfl, .inl (SqL.of hm1), fun m2 H2 s2 n2 h2 => ⟨sz 2 (by decide), fun p3 H3 s3 n3 h3 => ⟨D1, _, _, _, rfl, rfl, (s2.trans s3) _ _ K1.at_, by omega, by rw [mk]; omega, by omega, fun H4 k4 h4 => ⟨D1, _, rfl, ins (s2.trans s3) k4 ⟨p3, _, m2, [], _, rfl, h3, rfl, .inl (s3 _ _ h2), by rw [mx]; omega, zaY _⟩ h4⟩⟩⟩⟩
  rw [decide_eq_false (show ¬ V.int way = V.int 2 from fun z => e2 (by injection z))]
  refine iteF ?_
  refine ⟨_, rfl, rfl, _, rfl, ?_⟩
  by_cases e3 : way = 3
  · rw [decide_eq_true (show V.int way = V.int 3 by rw [e3])]
    refine iteT ?_
    refine ⟨_, rfl, _, rfl, sz 2 (by decide), fun l2 H2 s2 n2 h2 => ⟨_, rfl, _, _, rfl, rfl, (by show (0 : Int) < _; decide), ?_⟩⟩
    obtain ⟨v3, e3, z3⟩ := at_2 (.int 1) (.int (-1)) c
    obtain ⟨d, rfl⟩ : ∃ d : Int, v3 = .int d := by
      rcases z3 with rfl | rfl <;> exact ⟨_, rfl⟩
    exact ⟨l2, _, _, _, rfl, rfl, SqL.of h2, e3, _, _, rfl, rfl, _, rfl, sz 2 (by decide), fun p3 H3 s3 n3 h3 => ⟨_, rfl, _, rfl, D1, _, _, _, rfl, rfl, (s2.trans s3) _ _ K1.at_, ix, fun H9 k9 h9 => ⟨D1, _, rfl, put (s2.trans s3) k9 ⟨p3, _, x.2.1, [], _, rfl, h3, rfl, .inl ((s2.trans s3) _ _ hm1), by rw [mx]; omega, zaY _⟩ h9⟩⟩⟩
  rw [decide_eq_false (show ¬ V.int way = V.int 3 from fun z => e3 (by injection z))]
  refine iteF ?_
  refine ⟨_, rfl, rfl, _, rfl, ?_⟩
  by_cases e4 : way = 4
  · rw [decide_eq_true (show V.int way = V.int 4 by rw [e4])]
    refine iteT ?_
    exact ⟨_, rfl, _, rfl, _, rfl, _, rfl, rfl, x.2.1, _, rfl, SqL.of hm1, fun m2 H2 s2 n2 h2 => ⟨sz 2 (by decide), fun p3 H3 s3 n3 h3 => ⟨_, rfl, _, rfl, D1, _, _, _, rfl, rfl, (s2.trans s3) _ _ K1.at_, ix, fun H9 k9 h9 => ⟨D1, _, rfl, put (s2.trans s3) k9 ⟨p3, _, m2, [], _, rfl, h3, rfl, .inl (s3 _ _ h2), by rw [List.length_reverse, mx]; omega, by rw [← List.map_reverse]; exact zaY _⟩ h9⟩⟩⟩⟩
  rw [decide_eq_false (show ¬ V.int way = V.int 4 from fun z => e4 (by injection z))]
  refine iteF ?_
  refine ⟨_, rfl, rfl, _, rfl, ?_⟩
  by_cases e5 : way = 5
  · rw [decide_eq_true (show V.int way = V.int 5 by rw [e5])]
    refine iteT ?_
    exact ⟨_, rfl, _, rfl, sz 1 (by decide), fun l2 H2 s2 n2 h2 => ⟨x.2.1, l2, _, _, rfl, rfl, s2 _ _ hm1, h2, by rw [mx, List.length_singleton]; omega, fun m3 H3 s3 n3 h3 => ⟨sz 2 (by decide), fun p4 H4 s4 n4 h4 => ⟨_, rfl, _, rfl, D1, _, _, _, rfl, rfl, (s2.trans (s3.trans s4)) _ _ K1.at_, ix, fun H9 k9 h9 => ⟨D1, _, rfl, put (s2.trans (s3.trans s4)) k9 ⟨p4, _, m3, [], _, rfl, h4, rfl, .inl (s4 _ _ h3), by rw [List.length_append, mx, List.length_singleton]; omega, by rw [List.all_append, zaY]; rfl⟩ h9⟩⟩⟩⟩⟩
  rw [decide_eq_false (show ¬ V.int way = V.int 5 from fun z => e5 (by injection z))]
  refine iteF ?_
  refine ⟨_, rfl, rfl, _, rfl, ?_⟩
  by_cases e6 : way = 6
  · rw [decide_eq_true (show V.int way = V.int 6 by rw [e6])]
    refine iteT ?_
    refine ⟨_, rfl, _, rfl, _, rfl, _, rfl, x.2.1, _, rfl, SqL.of hm1, fun m2 H2 s2 n2 h2 => ?_⟩
    obtain ⟨ms, ems⟩ := zj8 x.2.2.2 none (some (-1))
    have lm : ms.length ≤ 40 := by
      have := congrArg List.length ems
      have c := zci (x.2.2.2.map V.int) none (some (-1))
      rw [List.length_map] at this
      omega
    have h2 : H2 m2 = some (.lst (ms.map V.int)) := by rw [← ems]; exact h2
    exact ⟨sz 2 (by decide), fun p3 H3 s3 n3 h3 => ⟨_, rfl, _, rfl, D1, _, _, _, rfl, rfl, (s2.trans s3) _ _ K1.at_, ix, fun H9 k9 h9 => ⟨D1, _, rfl, put (s2.trans s3) k9 ⟨p3, _, m2, [], _, rfl, h3, rfl, .inl (s3 _ _ h2), by rw [List.length_map]; omega, zaY _⟩ h9⟩⟩⟩
  rw [decide_eq_false (show ¬ V.int way = V.int 6 from fun z => e6 (by injection z))]
  refine iteF ?_
  refine ⟨_, rfl, rfl, _, rfl, ?_⟩
  by_cases e7 : way = 7
  · rw [decide_eq_true (show V.int way = V.int 7 by rw [e7])]
    refine iteT ?_
    exact ⟨_, rfl, _, rfl, x.2.1, _, rfl, .inl ⟨SqL.of hm1, fun m2 H2 s2 n2 h2 => ⟨sz 2 (by decide), fun p3 H3 s3 n3 h3 => ⟨_, rfl, _, rfl, D1, _, _, _, rfl, rfl, (s2.trans s3) _ _ K1.at_, ix, fun H9 k9 h9 => ⟨D1, _, rfl, put (s2.trans s3) k9 ⟨p3, _, m2, [], _, rfl, h3, rfl, .inr (s3 _ _ h2), by rw [mx]; omega, zaY _⟩ h9⟩⟩⟩⟩⟩
  rw [decide_eq_false (show ¬ V.int way = V.int 7 from fun z => e7 (by injection z))]
  refine iteF ?_
  refine ⟨_, rfl, rfl, _, rfl, ?_⟩
  by_cases e8 : way = 8
  · rw [decide_eq_true (show V.int way = V.int 8 by rw [e8])]
    refine iteT ?_
    refine ⟨_, rfl, _, rfl, _, rfl, D1, _, rfl, SqL.of K1.at_, fun l2 H2 s2 n2 h2 => ?_⟩
    rw [zga] at h2
    refine ⟨_, rfl, _, rfl, sz 3 (by decide), fun p3 H3 s3 n3 h3 => ⟨sz 1 (by decide), fun l4 H4 s4 n4 h4 => ?_⟩⟩
    refine ⟨l2, l4, _, _, rfl, rfl, (s3.trans s4) _ _ h2, h4, by rw [List.length_take, List.length_singleton]; omega, fun l5 H5 s5 n5 h5 => ?_⟩
    have s25 := s2.trans (s3.trans (s4.trans s5))
    refine ⟨_, rfl, _, rfl, _, _, rfl, rfl, _, rfl, D1, _, rfl, SqL.of (s25 _ _ K1.at_), fun l6 H6 s6 n6 h6 => ?_⟩
    rw [show ((k : Int) + 1) = ((k + 1 : Nat) : Int) from rfl, zhE] at h6
    refine ⟨l5, l6, _, _, rfl, rfl, s6 _ _ h5, h6, by rw [List.length_append, List.length_take, List.length_drop, List.length_singleton]; omega, fun l7 H7 s7 n7 h7 => ?_⟩
    have s27 := s25.trans (s6.trans s7)
    refine q l7 _ H7 (s1.trans s27) h7 (by rw [List.length_append, List.length_append, List.length_take, List.length_drop, List.length_singleton]; omega) (swap s27 ⟨p3, _, x.2.1, _, _, rfl, (s4.trans (s5.trans (s6.trans s7))) _ _ h3, rfl, .inl (s27 _ _ hm1), by rw [mx]; omega, zaY _⟩)
  rw [decide_eq_false (show ¬ V.int way = V.int 8 from fun z => e8 (by injection z))]
  refine iteF ?_
  refine ⟨_, rfl, rfl, _, rfl, ?_⟩
  by_cases e9 : way = 9
  · rw [decide_eq_true (show V.int way = V.int 9 by rw [e9])]
    refine iteT ?_
    refine ⟨_, rfl, _, rfl, _, rfl, D1, _, rfl, SqL.of K1.at_, fun l2 H2 s2 n2 h2 => ?_⟩
    rw [zga] at h2
    exact ⟨l2, _, rfl, s1.trans s2, h2, by rw [List.length_take]; omega, fun u hu => (sh1 u (List.mem_of_mem_take hu)).same s2⟩
  rw [decide_eq_false (show ¬ V.int way = V.int 9 from fun z => e9 (by injection z))]
  refine iteF ?_
  refine ⟨_, rfl, rfl, _, rfl, ?_⟩
  by_cases e10 : way = 10
  · rw [decide_eq_true (show V.int way = V.int 10 by rw [e10])]
    refine iteT ?_
    have hF1 := hF.same s1
    refine ⟨_, rfl, F, rfl, ⟨_, SqL.of hF1.at_⟩, ?_⟩
    refine zfd (xs := qs.map fun r => V.ref r.1) (sts 2 qs fun r => [.int r.2.2.1, .ref r.2.1]) (itm qs fun r => V.int r.2.2.1) (itl qs fun r => r.2.2.2.map V.int) (SqL.of hF1.at_) (zdr fun _ => rfl) ?_ (fun i x Hh Q' hx sh q' => q' Hh (Same.refl _)) ?_ (by rw [List.length_map]; omega) (fun D2 H2 bs s2 nD2 hD4 lb hb => ?_)
    · intro j x Hh os R' hxj sh ol r'
      obtain ⟨o1, o2, rfl⟩ := len2 ol
      rw [List.getElem?_map] at hxj
      cases er : qs[j]? with
      | none => rw [er] at hxj; cases hxj
      | some r =>
        rw [er] at hxj
        cases hxj
        unfold sts at r'
        rw [er] at r'
        exact ⟨r.1, _, rfl, SqT.of (sh _ _ (hF1.row r (List.mem_of_getElem? er))), rfl, _, _, rfl, _, _, rfl, rfl, r'⟩
    · intro j x Hh Q' hj sh q'
      rw [List.getElem?_map] at hj
      cases er : qs[j]? with
      | none => rw [er] at hj; cases hj
      | some r =>
        rw [er] at hj
        cases hj
        unfold sts
        unfold itm itl at q'
        rw [er] at q' ⊢
        refine ⟨_, rfl, _, rfl, r.2.1, _, rfl, .inl (SqL.of (sh _ _ (hF1.num r (List.mem_of_getElem? er)))), fun m Ha sa na ha => ⟨sz 2 (by decide), fun p Hb sb nb hb' => q' p m Hb (sa.trans sb) na hb' (sb _ _ ha)⟩⟩
    rw [List.length_map] at lb
    obtain ⟨js, J2, ej⟩ := zhD hD4 lb hb
    have lj : js.length = qs.length := by
      have := congrArg List.length ej
      rw [List.length_map, List.length_map] at this
      exact this
    have lj40 : ∀ r, r ∈ js → r.2.2.2.length ≤ 40 := fun r hr => by
      have : (r.2.2.1, r.2.2.2) ∈ zbo qs := by
        rw [← ej]
        exact List.mem_map.mpr ⟨r, hr, rfl⟩
      obtain ⟨r', hr', e⟩ := List.mem_map.mp this
      have e1 : r'.2.2.2 = r.2.2.2 := congrArg Prod.snd e
      rw [← e1]
      exact l2 r' hr'
    exact ⟨D2, _, rfl, s1.trans s2, J2.at_, by rw [List.length_map]; omega, zjx J2 lj40⟩
  rw [decide_eq_false (show ¬ V.int way = V.int 10 from fun z => e10 (by injection z))]
  refine iteF ?_
  refine ⟨_, rfl, rfl, _, rfl, ?_⟩
  by_cases e11 : way = 11
  · rw [decide_eq_true (show V.int way = V.int 11 by rw [e11])]
    refine iteT ?_
    obtain ⟨y, hy, ey⟩ : ∃ y, y ∈ ks ∧ (ks.map fun r => V.ref r.1) = (ks.map fun r => V.ref r.1).dropLast ++ [.ref y.1] := by
      have nn : ks ≠ [] := List.length_pos_iff.mp (by omega)
      refine ⟨ks.getLast nn, List.getLast_mem nn, ?_⟩
      rw [← List.map_dropLast, show [V.ref (ks.getLast nn).1] = [ks.getLast nn].map (fun r => V.ref r.1) from rfl, ← List.map_append, List.dropLast_concat_getLast]
    have ea : atI (ks.map fun r => V.ref r.1) (-1) = some (.ref y.1) := by
      rw [ey]
      exact zeh _ _
    refine ⟨_, rfl, .inl ⟨rfl, _, SqL.of K1.at_⟩, _, rfl, _, rfl, D1, _, _, _, rfl, rfl, SqL.of K1.at_, ea, y.1, _, _, _, rfl, rfl, SqT.of (K1.row y hy), rfl, _, _, rfl, rfl, sz 0 (by decide), fun m2 H2 s2 n2 h2 => ⟨sz 2 (by decide), fun p3 H3 s3 n3 h3 => ⟨D1, _, _, rfl, rfl, (s2.trans s3) _ _ K1.at_, by omega, fun H4 k4 h4 => ⟨D1, _, rfl, (s1.trans (s2.trans s3)).but nD1 k4, h4, by rw [List.length_append, List.length_singleton]; omega, fun u hu => ?_⟩⟩⟩⟩
    rcases List.mem_append.mp hu with hu | hu
    · exact ((sh1 u hu).same (s2.trans s3)).but k4 ((s2.trans s3) _ _ K1.at_) nf
    · rw [List.mem_singleton.mp hu]
      exact Shp.but k4 ((s2.trans s3) _ _ K1.at_) nf ⟨p3, _, m2, [], [], rfl, h3, rfl, .inl (s3 _ _ h2), by decide, rfl⟩
  rw [decide_eq_false (show ¬ V.int way = V.int 11 from fun z => e11 (by injection z))]
  refine iteF ?_
  refine ⟨_, rfl, rfl, _, rfl, ?_⟩
  by_cases e12 : way = 12
  · rw [decide_eq_true (show V.int way = V.int 12 by rw [e12])]
    refine iteT ?_
    refine ⟨_, rfl, _, rfl, x.2.1, rfl, ⟨_, SqL.of hm1⟩, ?_⟩
    refine zbg (xs := x.2.2.2.map V.int) (fun _ => true) (itm x.2.2.2 tvI) (SqL.of hm1) (fun i x Hh Q' hx sh q' => q' Hh (Same.refl _)) ?_ (zaA (by rw [mx]; omega)) (fun m2 H2 s2 n2 h2 => ?_)
    · intro j z Hh Q' hj _ sh q'
      rw [List.getElem?_map] at hj
      cases er : x.2.2.2[j]? with
      | none => rw [er] at hj; cases hj
      | some y =>
        rw [er] at hj
        cases hj
        unfold itm at q'
        rw [er] at q'
        refine ⟨_, rfl, sz 3 (by decide), fun l3 H3 s3 n3 h3 => ⟨_, rfl, rfl, .inr ⟨_, rfl, _, rfl, rfl, .inr ⟨_, rfl, _, _, rfl, rfl, .inl ⟨by decide, by decide⟩, _, _, rfl, rfl, l3, _, _, _, rfl, rfl, SqL.of h3, zni y, q' H3 s3⟩⟩⟩⟩
    rw [zcd, mx, zdq] at h2
    exact ⟨sz 2 (by decide), fun p3 H3 s3 n3 h3 => ⟨_, rfl, _, rfl, D1, _, _, _, rfl, rfl, (s2.trans s3) _ _ K1.at_, ix, fun H9 k9 h9 => ⟨D1, _, rfl, put (s2.trans s3) k9 ⟨p3, _, m2, [], _, rfl, h3, rfl, .inl (s3 _ _ h2), by rw [List.length_map]; omega, zlG _⟩ h9⟩⟩⟩
  rw [decide_eq_false (show ¬ V.int way = V.int 12 from fun z => e12 (by injection z))]
  refine iteF ?_
  refine ⟨_, rfl, rfl, _, rfl, ?_⟩
  by_cases e13 : way = 13
  · rw [decide_eq_true (show V.int way = V.int 13 by rw [e13])]
    refine iteT ?_
    refine ⟨_, rfl, _, _, rfl, rfl, _, rfl, ite2 (fun c => ?_) (fun c => ⟨D1, _, rfl, s1, K1.at_, by omega, sh1⟩)⟩
    have c : x.2.2.1 < 2 := of_decide_eq_true c
    refine ⟨_, rfl, _, rfl, _, rfl, D1, _, rfl, SqL.of K1.at_, fun l2 H2 s2 n2 h2 => ?_⟩
    rw [zga] at h2
    obtain ⟨tv, et⟩ : ∃ tv : Bool, atI [V.bl false, V.bl true] x.2.2.1 = some (.bl tv) := by
      rcases (by omega : x.2.2.1 = 0 ∨ x.2.2.1 = 1) with e | e <;> rw [e] <;> exact ⟨_, rfl⟩
    refine ⟨sz 2 (by decide), fun lb Hb sb nb hb => ⟨_, rfl, lb, _, _, _, rfl, rfl, SqL.of hb, et, _, rfl, sz 2 (by decide), fun p3 H3 s3 n3 h3 => ⟨sz 1 (by decide), fun l4 H4 s4 n4 h4 => ?_⟩⟩⟩
    have s2' := s2.trans sb
    refine ⟨l2, l4, _, _, rfl, rfl, (sb.trans (s3.trans s4)) _ _ h2, h4, by rw [List.length_take, List.length_singleton]; omega, fun l5 H5 s5 n5 h5 => ?_⟩
    have s25 := s2'.trans (s3.trans (s4.trans s5))
    refine ⟨_, rfl, _, rfl, _, _, rfl, rfl, _, rfl, D1, _, rfl, SqL.of (s25 _ _ K1.at_), fun l6 H6 s6 n6 h6 => ?_⟩
    rw [show ((k : Int) + 1) = ((k + 1 : Nat) : Int) from rfl, zhE] at h6
    refine ⟨l5, l6, _, _, rfl, rfl, s6 _ _ h5, h6, by rw [List.length_append, List.length_take, List.length_drop, List.length_singleton]; omega, fun l7 H7 s7 n7 h7 => ?_⟩
    have s27 := s25.trans (s6.trans s7)
    refine q l7 _ H7 (s1.trans s27) h7 (by rw [List.length_append, List.length_append, List.length_take, List.length_drop, List.length_singleton]; omega) (swap s27 ⟨p3, _, x.2.1, _, _, rfl, (s4.trans (s5.trans (s6.trans s7))) _ _ h3, rfl, .inl (s27 _ _ hm1), by rw [mx]; omega, zaY _⟩)
  rw [decide_eq_false (show ¬ V.int way = V.int 13 from fun z => e13 (by injection z))]
  refine iteF (iteF ?_)
  exact ⟨D1, _, rfl, s1, K1.at_, by omega, sh1⟩
theorem zhF {h : Nat} {b : Int} {c : Ch} {k : Nat} : ∀ {n : Nat}, k ≤ n → (runN h n b c).1.take k = (runN h k b c).1
  | 0, hk => by
    have : k = 0 := by omega
    subst this
    rfl
  | n + 1, hk => by
    by_cases e : k = n + 1
    · subst e
      exact List.take_of_length_le (by rw [zcw]; exact Nat.le_refl _)
    · rw [zaK]
      show ((runN h n b c).1 ++ _).take k = _
      rw [List.take_append_of_le_length (by rw [zcw]; omega)]
      exact zhF (by omega)
theorem zlH {x : V} {xs : List V} {lo hi : Option Int} (h : x ∈ cutV xs lo hi) : x ∈ xs := by
  unfold cutV at h
  exact List.mem_of_mem_drop (List.mem_of_mem_take h)
theorem zkp {h : Nat} {b : Int} {c0 : Ch} {rs : List (Addr × Addr × Int × List Int)} {N : Nat} {u j : Int} (en : zbo rs = (runN h N b c0).1) (ez : (runN h N b c0).2 = []) (hu : valI (zcY (zbo rs) []) j = some u) :
    ∃ m : Nat, m < N ∧ u = b + m ∧ (rs.filter fun r => decide (r.2.2.1 ≤ u)) = rs.take (m + 1) ∧ j ∈ wkI h b c0 m ∧ j ∉ (runN h (m + 1) b c0).2.map (·.1.n) ∧ zbo (rs.take (m + 1)) = (runN h (m + 1) b c0).1 := by
  have lN : rs.length = N := by
    have := congrArg List.length en
    rw [List.length_map, zcw] at this
    exact this
  have at_ : ∀ (i : Nat) x, rs[i]? = some x → i < N ∧ x.2.2.1 = b + i ∧ x.2.2.2 = wkI h b c0 i := fun i x e => by
    have il : i < N := by
      have := (List.getElem?_eq_some_iff.mp e).1
      omega
    have ea := zhz (h := h) (b := b) (c := c0) il
    rw [← en, List.getElem?_map, e] at ea
    have ea : some (x.2.2.1, x.2.2.2) = some (b + i, wkI h b c0 i) := ea
    injection ea with ea
    injection ea with ea1 ea2
    exact ⟨il, ea1, ea2⟩
  rcases zf7 hu with z | ⟨r, hr, er, hj⟩
  · cases z
  obtain ⟨x, hx, rfl⟩ := List.mem_map.mp hr
  obtain ⟨m, hm⟩ := List.getElem?_of_mem hx
  obtain ⟨mN, e1, e2⟩ := at_ m x hm
  have er : x.2.2.1 = u := er
  have hj : j ∈ x.2.2.2 := hj
  have eu : u = b + m := by rw [← er, e1]
  rw [e2] at hj
  refine ⟨m, mN, eu, ?_, hj, fun z => ?_, ?_⟩
  · conv => lhs; rw [← List.take_append_drop (m + 1) rs]
    rw [List.filter_append]
    have f1 : (rs.take (m + 1)).filter (fun r => decide (r.2.2.1 ≤ u)) = rs.take (m + 1) := by
      rw [List.filter_eq_self]
      intro y hy
      obtain ⟨i, hi⟩ := List.getElem?_of_mem hy
      have il : i < m + 1 := by
        have := (List.getElem?_eq_some_iff.mp hi).1
        rw [List.length_take] at this
        omega
      rw [List.getElem?_take_of_lt il] at hi
      exact decide_eq_true (by rw [(at_ i y hi).2.1, eu]; omega)
    have f2 : (rs.drop (m + 1)).filter (fun r => decide (r.2.2.1 ≤ u)) = [] := by
      rw [List.filter_eq_nil_iff]
      intro y hy z
      obtain ⟨i, hi⟩ := List.getElem?_of_mem hy
      rw [List.getElem?_drop] at hi
      have z := of_decide_eq_true z
      rw [(at_ _ y hi).2.1, eu] at z
      omega
    rw [f1, f2, List.append_nil]
  · have pos : ∀ k, k ∈ (runN h (m + 1) b c0).2 → 0 < k.2 := by
      rw [zaK]
      exact fun k hk => zc7 hk
    obtain ⟨i, i1, i2, i3⟩ := zeG (N - (m + 1)) (m + 1) z pos (by rw [show m + 1 + (N - (m + 1)) = N by omega]; exact ez)
    obtain ⟨u', h1, h2⟩ := zdl (L := []) (zjh (h := h) (b := b) (d := c0) N).1 (.inr ⟨_, zek (show i < N by omega), rfl, i3⟩)
    rw [← en, hu] at h1
    cases h1
    have h2 : b + (i : Int) ≤ u := h2
    omega
  · unfold zbo
    rw [List.map_take]
    unfold zbo at en
    rw [en]
    exact zhF (by omega)
theorem zh7 {H : Hp} {D : Addr} {rs : List (Addr × Addr × Int × List Int)} {h : Nat} {b : Int} {c0 : Ch} {n : Nat} (R : IsRun H D rs) (e : zbo rs = (runN h n b c0).1) (l : ∀ r, r ∈ rs → r.2.2.2.length ≤ 40) : Walked K H (rs.map fun r => V.ref r.1) h b c0 n ∧ rs.length = n := by
  have ln : rs.length = n := by
    have := congrArg List.length e
    rw [List.length_map, zcw] at this
    exact this
  refine ⟨⟨by rw [List.length_map]; omega, fun i u hi hu => ?_, .inl (by rw [List.length_map]; omega)⟩, ln⟩
  rw [List.getElem?_map] at hu
  cases ex : rs[i]? with
  | none => rw [ex] at hu; cases hu
  | some x =>
    rw [ex] at hu
    cases hu
    have ea := zhz (h := h) (b := b) (c := c0) hi
    rw [← e, List.getElem?_map, ex] at ea
    have ea : some (x.2.2.1, x.2.2.2) = some (b + i, wkI h b c0 i) := ea
    injection ea with ea
    injection ea with ea1 ea2
    have hx := List.mem_of_getElem? ex
    refine .inr (.inr ⟨x.1, _, _, true, rfl, R.row x hx, rfl, .inr ⟨x.2.1, _, rfl, R.num x hx, by rw [List.length_map]; have := l x hx; omega, zaY _, ?_⟩, ?_⟩)
    · rw [ea2]
      exact (zhA _).symm
    · rw [ea1, zfw]
      rfl
theorem zhG {H : Hp} : ∀ {us : List V}, (∀ u, u ∈ us → Shp H u) → ∃ ds : List (Addr × V × Addr × List V × List V), us = (ds.map fun d => V.ref d.1) ∧ ∀ d, d ∈ ds → H d.1 = some (.tup (d.2.1 :: .ref d.2.2.1 :: d.2.2.2.1)) ∧ zaM d.2.1 = true ∧ (H d.2.2.1 = some (.lst d.2.2.2.2) ∨ H d.2.2.1 = some (.tup d.2.2.2.2)) ∧ d.2.2.2.2.length ≤ 1000 ∧ d.2.2.2.2.all zaM = true
  | [], _ => ⟨[], rfl, fun d hd => by cases hd⟩
  | u :: us, al => by
    obtain ⟨ds, e, hd⟩ := zhG fun v hv => al v (List.mem_cons_of_mem _ hv)
    obtain ⟨p, x, m, rest, ys, rfl, a, b, c, d, e'⟩ := al u List.mem_cons_self
    refine ⟨(p, x, m, rest, ys) :: ds, by rw [List.map_cons, ← e], fun d' hd' => ?_⟩
    rcases List.mem_cons.mp hd' with rfl | hd'
    · exact ⟨a, b, c, d, e'⟩
    · exact hd d' hd'
def FlP (t : List V) : Prop := ∃ x y, t = [x, y] ∧ zaM x = true ∧ zaM y = true
structure PairL (H : Hp) (L : Addr) (bs : List (Addr × List V)) : Prop where
  at_ : H L = some (.lst (bs.map fun b => V.ref b.1))
  fl : ∀ b, b ∈ bs → FlP b.2 ∧ H b.1 = some (.tup b.2)
theorem PairL.same {H H' : Hp} {L : Addr} {bs : List (Addr × List V)} (s : Same H H') (p : PairL H L bs) : PairL H' L bs := ⟨s _ _ p.at_, fun b hb => ⟨(p.fl b hb).1, s _ _ (p.fl b hb).2⟩⟩
abbrev zmK (K : PySem.W.Frag) : TE := tOp (zkM K) (tSl (zmw K) (tVar 0) ziF (zlX (tC (V.int 1)))) (zl5 (ziy (tCB (zms K) (ziy (tOp (rIxT K) (tVar 0) (tC (V.int 1))) tNil)) tNil))
theorem zjy {H : Hp} {D : Addr} {ds : List (Addr × V × Addr × List V × List V)} {σ : St} {Q : VK} (hD : H D = some (.lst (ds.map fun d => V.ref d.1))) (hds : ∀ d, d ∈ ds → H d.1 = some (.tup (d.2.1 :: .ref d.2.2.1 :: d.2.2.2.1)) ∧ zaM d.2.1 = true ∧ (H d.2.2.1 = some (.lst d.2.2.2.2) ∨ H d.2.2.1 = some (.tup d.2.2.2.2)) ∧ d.2.2.2.2.length ≤ 1000 ∧ d.2.2.2.2.all zaM = true)
    (l : ds.length ≤ 3000) (q : ∀ D' H' (bs : List (Addr × Addr)), Same H H' → H D' = none → H' D' = some (.lst (bs.map fun b => V.ref b.1)) → bs.length = ds.length → (∀ (i : Nat) b, bs[i]? = some b → H' b.1 = some (.tup [itm ds (fun d => d.2.1) i, .ref b.2]) ∧ H' b.2 = some (.lst (itl ds (fun d => d.2.2.2.2) i))) → Q (.ref D') H') :
    ze6 (Itl K D) [] tYes (zmK K) σ H Q := by
  have md : (ds.map fun d => V.ref d.1).length = ds.length := List.length_map _
  have big : 100000 ≤ sizeLine := by decide
  refine zjl (itm ds fun d => d.2.1) (itl ds fun d => d.2.2.2.2) (SqL.of hD) (fun i x Hh Q' hx sh q' => q' Hh (Same.refl _)) ?_ (by rw [md]; omega) (fun D' H' bs s' n' h' lb hb => q D' H' bs s' n' h' (by rw [lb, md]) hb)
  intro i y Hh Q' hi sh q'
  rw [List.getElem?_map] at hi
  cases e : ds[i]? with
  | none => rw [e] at hi; cases hi
  | some d =>
    rw [e] at hi
    cases hi
    unfold itm itl at q'
    rw [e] at q'
    obtain ⟨d1, d2, d3, d4, d5⟩ := hds d (List.mem_of_getElem? e)
    refine ⟨_, rfl, _, rfl, d.1, _, rfl, SqT.of (sh _ _ d1), ?_, fun p2 H2 s2 n2 h2 => ?_⟩
    · intro z
      have z2 := z.2
      rw [show (some (1 : Int)) = some ((1 : Nat) : Int) from rfl, HT.sIx_nat, List.length_cons, List.length_cons] at z2
      omega
    have h2 : H2 p2 = some (.tup [d.2.1]) := by
      rw [h2]
      exact congrArg (fun l => some (HO.tup l)) (zga (d.2.1 :: .ref d.2.2.1 :: d.2.2.2.1) 1)
    have s12 := sh.trans s2
    refine ⟨_, rfl, d.1, _, _, _, rfl, rfl, SqT.of (s12 _ _ d1), zdN (j := 1) rfl, d.2.2.1, d.2.2.2.2, rfl, ?_, fun m3 H3 s3 n3 h3 => ⟨sz 1 (by decide), fun p4 H4 s4 n4 h4 => ⟨p2, p4, _, _, rfl, rfl, SqT.of ((s3.trans s4) _ _ h2), SqT.of h4, (fun z => by cases z), (fun z => by cases z), sz 2 (by decide), fun p5 H5 s5 n5 h5 => q' p5 m3 H5 (s2.trans (s3.trans (s4.trans s5))) (Same.free s2 n3) h5 ((s4.trans s5) _ _ h3)⟩⟩⟩
    exact d3.imp (fun z => SqL.of (s12 _ _ z)) (fun z => SqT.of (s12 _ _ z))
def zhH (K : PySem.W.Frag) (tT : Addr) : Sp := fun vs H Q _ => ∃ (l : Addr) (xs : List (Addr × Cl × Int)) (k : Addr × Cl × Int) (h b c : Int), vs = [.ref l, .int h, .int b, .int k.2.1.n, .int c] ∧ ChIn K H l xs ∧ k ∈ xs ∧ 0 < k.2.2 ∧ 0 < h ∧ 0 ≤ b ∧ b ≤ 1000 ∧ H tT = some (.tbl zcV lamQ) ∧ ∀ H', Same H H' → Q (.bl true) H'
theorem zaC : FnScope ["_law_chores_here", "_law_hands", "_law_begin", "_law_number", "_law_cell_here", "_law_full", "_law_witness", "_law_end", "_law_rows", "_law_kept", "_law_numbers", "_law_other", "_law_pairs", "_law_more", "_law_row", "_law_one", "_law_turn_here"] ["_law_chores_here", "_law_hands", "_law_begin", "_law_number", "_law_cell_here"] (zad zbE) := ⟨rfl, rfl, rfl, by decide +kernel, rfl, by decide +kernel, by decide +kernel⟩
theorem zgo (D : Dfn K mg "_law_right" zbE ["_law_chores_here", "_law_hands", "_law_begin", "_law_number", "_law_cell_here"] f fd) (T : Txt K mg c_WaitError c_NoPiece c_NoEnd) (zcS : Cal1 P w K mg base "witness_run" 12 ["chores", "hands", "begin", "number"] (zmE K c_NoPiece tT)) (zbe : Cal P w K mg base "shows_latest" 11 ["chores", "hands", "begin", "number", "turn", "rows"] (zgV K tT)) (zam : Cal P w K mg base "_law_draw" 2 ["_law_cell_here", "_law_k", "_law_many"] zdV) (zeM : Cal P w K mg base "_law_run" 4 ["_law_chores_here", "_law_hands", "_law_begin"] (zkT K)) (zdZ : Cal P w K mg base "_law_bent" 3 ["_law_rows", "_law_full", "_law_cell_here"] (zkY K)) (zb1 : Cal P w K mg base "_law_asked" 12 ["_law_chores_here", "_law_hands", "_law_begin", "_law_number", "_law_turn_here", "_law_rows"] (zlE K tT)) : Cal P w K mg base "_law_right" 13 ["_law_chores_here", "_law_hands", "_law_begin", "_law_number", "_law_cell_here"] (zhH K tT) := by
  refine D.cal (D.F.ok zaC (fun vs H Q E h => ?_) (fun cdv A outer s H vs Q E hr h => ?_))
  · obtain ⟨l, xs, k, h, b, c, rfl, _⟩ := h
    rfl
  obtain ⟨l, xs, k, h, b, c, rfl, hI, hk, pos, h0, b0, b1, hT, q⟩ := h
  refine ⟨_, (zae (zav (i := 5) zaC.nd rfl (Or.inl rfl) (zal zeM (hr.mono (by decide)) rfl (zaa (pv 0) (zaa (pv 1) (zaa (pv 2) zac)))))
      (zae (zav (i := 6) zaC.nd rfl (Or.inl rfl) (ziV zcS zjY (hr.mono (by decide)) rfl (pai (zag (pv 0) (zag (pv 1) (zag (pv 2) (zag (pv 3) zbw)))))))
      (zae (zav (i := 7) zaC.nd rfl (Or.inr rfl) (zaq zao (zaq zaZ (pv 6) (zeP zdo zab) (fun _ _ => rfl)) zab (fun _ _ => rfl)))
      (zae (zav (i := 8) zaC.nd rfl (Or.inl rfl) (zal zdZ (hr.mono (by decide)) rfl (zaa (pv 6) (zaa (pv 5) (zaa (pv 4) zac)))))
      (zae (zc6 (i := 9) (N := ["_law_row"]) (js := []) zaC.nd rfl rfl rfl (CompScope.of rfl rfl rfl rfl rfl (by decide +kernel) rfl rfl rfl rfl) (zaE (pv 8)) (fun _ _ _ _ _ => zb4) (fun _ _ _ _ _ => (zat (zht (K := K) rfl) (zbv (zjk (K := K) rfl) (pv 0) zb7 (zbM zab)) (zaB (zaa (zbs (zdm (K := K) rfl) rfl T.zdI zcJ (zaa (zaq (r := rIxT K) zao (pv 0) zab (fun _ _ => rfl)) zac)) zac)))))
      (zae (zdj (i := 10) (nk := 2) (g := (gTup K 2 (zc0 (zcb 0) (zc0 (zcb 1) gNil)))) (N := ["_law_claim", "_law_left"]) (js := []) zaC.nd rfl rfl rfl (CompScopeN.of rfl rfl rfl rfl rfl (by decide +kernel) rfl rfl rfl) (fun _ _ _ _ _ hn => (zca rfl (zas (hn 0 _ _ rfl (by decide)) (zas (hn 1 _ _ rfl (by decide)) zbp)))) (zaE (pv 0)) (fun _ _ _ _ _ => zb4) (fun _ _ _ _ _ => (zaq (r := rIxT K) zao (pv 0) zab (fun _ _ => rfl))))
      (zae (zav (i := 11) zaC.nd rfl (Or.inl rfl) (zaq zaZ (pv 10) (zal zam (hr.mono (by decide)) rfl (zaa (pv 4) (zaa zab (zaa (zax zaF rfl T.zdS zcB (zaa (pv 10) zac)) zac)))) (fun _ _ => rfl)))
      (zae (zc6 (i := 12) (N := ["_law_one", "_law_end"]) (js := [7]) zaC.nd rfl rfl rfl (CompScope.of rfl rfl rfl rfl rfl (by decide +kernel) rfl rfl rfl rfl) (zaE (zaz (pai (zag (pv 3) (zag (pv 11) (zag zab (zag zcz (zag zcT (zag zkr zbw))))))))) (fun _ _ _ _ _ => zb4) (fun _ _ _ _ _ => (zaB (zaa (pv 0) (zaa (pv 1) zac)))))
      (zae (zc6 (i := 13) (N := ["_law_turn_here", "_law_number"]) (js := [3]) zaC.nd rfl rfl rfl (CompScope.of rfl rfl rfl rfl rfl (by decide +kernel) rfl rfl rfl rfl) (zaE (zaz (pai (zag (zat za2 (pv 7) zab) (zag (pv 2) (zag zcT (zag zcz zbw))))))) (fun _ _ _ _ _ => zb4) (fun _ _ _ _ _ => (zaB (zaa (pv 1) (zaa (pv 0) zac)))))
      (zae (zc2 PassesOwn.never rfl (zaE (zbv zb2 (pv 8) (zbM (zeP zdo zab)) zb7)) (zaD (i := 14) zaC.nd rfl (Or.inr rfl)) (zaf (zav (i := 13) zaC.nd rfl (Or.inl rfl) (zat zc5 (pv 13) (zcv (N := ["_law_one", "_law_row"]) (js := [14]) rfl (CompScope.of rfl rfl rfl rfl rfl (by decide +kernel) rfl rfl rfl rfl) (zaE (zat zc5 (zaz (zaa (pv 3) (zaa (pv 11) zac))) (zbv zb2 (pv 10) zb7 (zbM zab)))) (fun _ _ _ _ _ => zb4) (fun _ _ _ _ _ => (zaB (zaa (pv 0) (zaa (zaq (r := rIxT K) zao (pv 1) zab (fun _ _ => rfl)) zac)))))))))
      (zae (zc2 PassesOwn.never rfl (zaE (zat zc5 (pv 12) (pv 13))) (zca rfl (zas (zaD (i := 15) zaC.nd rfl (Or.inl rfl)) (zas (zaD (i := 16) zaC.nd rfl (Or.inl rfl)) zbp))) (zaf (zbb (zbK (zbI (zal zb1 (hr.mono (by decide)) rfl (pai (zag (pv 0) (zag (pv 1) (zag (pv 2) (zag (pv 15) (zag (pv 16) (zag (pv 8) zbw)))))))))) (zaf (zau zcz)) zaO)))
      (zae (zbb (zap (zmb 9 hr.units9) (zcv (N := ["_law_row"]) (js := []) rfl (CompScope.of rfl rfl rfl rfl rfl (by decide +kernel) rfl rfl rfl rfl) (zaE (pv 8)) (fun _ _ _ _ _ => zb4) (fun _ _ _ _ _ => (zat (zht (K := K) rfl) (zbv (zjk (K := K) rfl) (pv 0) zb7 (zbM zab)) (zaB (zaa (zbs (zdm (K := K) rfl) rfl T.zdI zcJ (zaa (zaq (r := rIxT K) zao (pv 0) zab (fun _ _ => rfl)) zac)) zac))))) (pv 9) (zaw _)) (zaf (zau zcz)) zaO)
      (zaf (zau (zc3 zl4 (zal zbe (hr.mono (by decide)) rfl (pai (zag (pv 0) (zag (pv 1) (zag (pv 2) (zag (pv 3) (zag (pv 7) (zag (pv 6) zbw)))))))) zcz (zaw _)))))))))))))))), ?_⟩
  have big : 100000 ≤ sizeLine := by decide
  refine ⟨_, rfl, _, rfl, _, rfl, l, xs, h, b, rfl, hI, h0, b0, b1, fun F H1 qs s1 nF RF lf40 lf14 => ?_⟩
  refine ⟨_, rfl, _, rfl, _, rfl, _, rfl, l, xs, h, b, _, rfl, hI.same s1, h0, b0, b1, s1 _ _ hT, .inl ⟨k, hk, pos, rfl, fun D1 D0 H2 rs u s2 nD RD l40 l14 hu ne RW => ?_⟩⟩
  obtain ⟨N, en, ez, _⟩ := RD.eq
  generalize hc0 : bhC [] (xs.map (·.2)) = c0 at en ez
  obtain ⟨m, mN, eu, ef, hj, hnl, ew⟩ := zkp en ez hu
  rw [ef] at RW
  have lw : ∀ r, r ∈ rs.take (m + 1) → r.2.2.2.length ≤ 40 := fun r hr => l40 r (List.mem_of_mem_take hr)
  obtain ⟨WW, lwn⟩ := zh7 (K := K) RW ew lw
  generalize hws : rs.take (m + 1) = ws at RW ew lw WW lwn
  have mw : (ws.map fun r => V.ref r.1).length = ws.length := List.length_map _
  have ws14 : ws.length ≤ 1481 := by
    rw [← hws, List.length_take]
    omega
  have s02 := s1.trans s2
  obtain ⟨x, ex⟩ : ∃ x, ws[m]? = some x := ⟨_, List.getElem?_eq_getElem (by omega)⟩
  have hx := List.mem_of_getElem? ex
  have wat : ∀ (i : Nat) y, ws[i]? = some y → y.2.2.1 = b + i := fun i y e => by
    have il : i < m + 1 := by
      have := (List.getElem?_eq_some_iff.mp e).1
      omega
    have ea := zhz (h := h.toNat) (b := b) (c := c0) il
    rw [← ew, List.getElem?_map, e] at ea
    have ea : some (y.2.2.1, y.2.2.2) = some (b + i, wkI h.toNat b c0 i) := ea
    injection ea with ea
    injection ea with ea1 ea2
  have ext := wat m x ex
  have ea : atI (ws.map fun r => V.ref r.1) (-1) = some (.ref x.1) := by
    have : (ws.map fun r => V.ref r.1) = (ws.map fun r => V.ref r.1).take m ++ [.ref x.1] := by
      have e := List.take_append_drop m (ws.map fun r => V.ref r.1)
      rw [← e]
      congr 1
      · rw [e]
      · rw [List.drop_eq_getElem_cons (by rw [mw]; omega), List.drop_of_length_le (by rw [mw]; omega), List.getElem_map]
        rw [List.getElem?_eq_getElem (by omega)] at ex
        injection ex with ex
        rw [ex]
    rw [this]
    exact zeh _ _
  refine ⟨_, rfl, _, rfl, D1, _, _, _, rfl, rfl, SqL.of RW.at_, ea, x.1, _, _, _, rfl, rfl, SqT.of (RW.row x hx), rfl, ?_⟩
  rw [ext]
  refine ⟨_, rfl, _, rfl, _, rfl, D1, F, ws, qs, c, rfl, RW, RF.run.same s2, lw, lf40, ws14, lf14, (fun z => by rw [z] at hx; cases hx), (fun r hr => ?_), fun D3 us H3 s3 hD3 lu al => ?_⟩
  · obtain ⟨i, hi⟩ := List.getElem?_of_mem hr
    rw [wat i r hi]
    omega
  obtain ⟨ds, eds, hds⟩ := zhG al
  have s03 := s02.trans s3
  have md : us.length = ds.length := by rw [eds, List.length_map]
  rw [eds] at hD3
  refine ⟨_, rfl, D3, rfl, ⟨_, SqL.of hD3⟩, ?_⟩
  refine zjy hD3 hds (by omega) (fun Dk H4 bs s4 nDk hDk lb hb => ?_)
  have s04 := s03.trans s4
  have hI4 := hI.same s04
  have ml : (xs.map fun q => V.ref q.1).length = xs.length := List.length_map _
  refine ⟨_, rfl, l, rfl, ⟨_, SqL.of hI4.chs.at_⟩, ?_⟩
  refine zdk (xs := xs.map fun q => V.ref q.1) (sts 2 xs fun k => [.ref (kcOf H4 k.1), .int k.2.2]) (fun _ => true) (itm xs fun k => V.int k.2.1.n) (SqL.of hI4.chs.at_) (zdr fun _ => rfl) ?_ (fun i x Hh Q' hx sh q' => q' Hh (Same.refl _)) ?_ (zaA (by rw [ml]; exact Nat.le_trans hI.len (by decide))) (fun D5 H5 s5 nD5 hD5 => ?_)
  · intro j y Hh os R' hyj sh ol r'
    obtain ⟨o1, o2, rfl⟩ := len2 ol
    rw [List.getElem?_map] at hyj
    cases ek : xs[j]? with
    | none => rw [ek] at hyj; cases hyj
    | some z =>
      rw [ek] at hyj
      cases hyj
      unfold sts at r'
      rw [ek] at r'
      exact ⟨z.1, _, rfl, SqT.of (sh _ _ (hI4.chs.ch z (List.mem_of_getElem? ek)).kc.1), rfl, _, _, rfl, _, _, rfl, rfl, r'⟩
  · intro j y Hh Q' hyj _ sh q'
    rw [List.getElem?_map] at hyj
    cases ek : xs[j]? with
    | none => rw [ek] at hyj; cases hyj
    | some z =>
      have zz := q' Hh (Same.refl _)
      unfold itm at zz
      unfold sts
      rw [ek] at zz ⊢
      obtain ⟨_, _, c1, _, _⟩ := id (hI4.chs.ch z (List.mem_of_getElem? ek)).kc.2.ex
      exact ⟨_, rfl, _, _, _, _, rfl, rfl, SqT.of (sh _ _ c1), rfl, zz⟩
  rw [zcd, ml, zdq] at hD5
  have hD5 : H5 D5 = some (.lst ((xs.map (·.2.1.n)).map V.int)) := by
    rw [hD5, List.map_map]
    rfl
  generalize hnm : xs.map (·.2.1.n) = nm at hD5
  have lnm : nm.length = xs.length := by rw [← hnm, List.length_map]
  have xl : 0 < xs.length := List.length_pos_iff.mpr fun z => by rw [z] at hk; cases hk
  have x40 := hI.len
  have mn : (nm.map V.int).length = nm.length := List.length_map _
  have s05 := s04.trans s5
  refine ⟨_, rfl, _, rfl, _, rfl, D5, _, rfl, .inl (SqL.of hD5), c, _, _, rfl, by decide, by rw [mn]; omega, fun r r0 r1 => ?_⟩
  rw [mn] at r1
  obtain ⟨o, eo⟩ : ∃ o, nm[r.toNat]? = some o := ⟨_, List.getElem?_eq_getElem (by omega)⟩
  have eoV : atI (nm.map V.int) r = some (.int o) := by
    have := zdN (xs := nm.map V.int) (j := r.toNat) (v := .int o) (by rw [List.getElem?_map, eo]; rfl)
    rw [show ((r.toNat : Nat) : Int) = r by omega] at this
    exact this
  refine ⟨D5, _, _, _, rfl, rfl, SqL.of hD5, eoV, ?_⟩
  refine ⟨_, rfl, _, rfl, sz 6 (by decide), fun lp H6 s6 n6 h6 => ⟨lp, rfl, ⟨_, SqL.of h6⟩, ?_⟩⟩
  refine zdR (fun _ t => FlP t) (SqL.of h6) (fun i x Hh Q' hx sh q' => q' Hh (Same.refl _)) ?_ (zaA (by show (6 : Nat) ≤ 1000; decide)) (fun Lp H7 ps s7 nLp hLp lps fps hps => ?_)
  · intro i y Hh Q' hi sh q'
    have fy : zaM y = true := List.all_eq_true.mp (show [V.int k.2.1.n, V.int o, V.int 98, V.bl true, V.non, V.str (Str.ofString "1")].all zaM = true from rfl) y (List.mem_of_getElem? hi)
    exact ⟨_, rfl, _, rfl, sz 2 (by decide), fun p Hp sp np hp => q' p _ Hp sp ⟨y, _, rfl, fy, rfl⟩ hp⟩
  have P7 : PairL H7 Lp ps := ⟨hLp, fun b' hb' => by
    obtain ⟨i, hi⟩ := List.getElem?_of_mem hb'
    exact ⟨fps i b' hi, hps b' hb'⟩⟩
  have lps : ps.length = 6 := lps
  refine ⟨_, rfl, _, _, rfl, rfl, _, rfl, sz 4 (by decide), fun lq H8 s8 n8 h8 => ⟨lq, rfl, ⟨_, SqL.of h8⟩, ?_⟩⟩
  refine zdR (fun _ t => FlP t) (SqL.of h8) (fun i x Hh Q' hx sh q' => q' Hh (Same.refl _)) ?_ (zaA (by show (4 : Nat) ≤ 1000; decide)) (fun Lm H9 ms s9 nLm hLm lms fms hms => ?_)
  · intro i y Hh Q' hi sh q'
    have fy : zaM y = true := List.all_eq_true.mp (show [V.int (b + (m : Int) + 1), V.int b, V.non, V.bl true].all zaM = true from rfl) y (List.mem_of_getElem? hi)
    exact ⟨_, rfl, _, rfl, sz 2 (by decide), fun p Hp sp np hp => q' p _ Hp sp ⟨_, y, rfl, rfl, fy⟩ hp⟩
  have P9 : PairL H9 Lm ms := ⟨hLm, fun b' hb' => by
    obtain ⟨i, hi⟩ := List.getElem?_of_mem hb'
    exact ⟨fms i b' hi, hms b' hb'⟩⟩
  have lms : ms.length = 4 := lms
  have s59 := s6.trans (s7.trans (s8.trans s9))
  have s39 := s4.trans (s5.trans s59)
  refine ⟨_, rfl, _, rfl, _, rfl, D3, _, rfl, SqL.of (s39 _ _ hD3), fun lr H10 s10 n10 h10 => ⟨lr, rfl, ⟨_, SqL.of h10⟩, ?_⟩⟩
  have s310 := s39.trans s10
  refine zdf (K := K) (a := lr) (xs := cutV (ds.map fun d => V.ref d.1) (some (-1)) none) (fun i σ H' => ∃ (L : Addr) (bs' : List (Addr × List V)) (v14 : Option V), σ = [some (.ref l), some (.int h), some (.int b), some (.int k.2.1.n), some (.int c), some (.ref F), some (.ref D1), some (.int (b + m)), some (.ref D3), some (.ref Dk), some (.ref D5), some (.int o), some (.ref Lp), some (.ref L), v14, none, none] ∧ Same H10 H' ∧ PairL H' L bs' ∧ bs'.length ≤ 4 + 5 * i)
    ⟨Lm, ms, _, rfl, Same.refl _, P9.same s10, by omega⟩ (fun i σ H' _ ⟨_, _, _, _, s, _⟩ => SqL.of (s _ _ h10)) ?_ ?_
  · rintro i y σ H11 hi ⟨L, bs', v14, rfl, s11, PL, lbs⟩
    obtain ⟨d, hd, rfl⟩ := List.mem_map.mp (zlH (List.mem_of_getElem? hi))
    obtain ⟨d1, d2, _, _, _⟩ := hds d hd
    have il : i < 3001 := by
      have := (List.getElem?_eq_some_iff.mp hi).1
      have cl := zci (ds.map fun d => V.ref d.1) (some (-1)) none
      rw [List.length_map] at cl
      omega
    have s311 := s310.trans s11
    have s511 := s59.trans (s10.trans s11)
    refine ⟨_, rfl, _, rfl, _, rfl, sz 2 (by decide), fun la Ha sa na ha => ?_⟩
    refine ⟨_, rfl, _, rfl, D5, _, rfl, SqL.of ((s511.trans sa) _ _ hD5), fun lc Hc sc nc hc => ?_⟩
    have hc : Hc lc = some (.lst ((nm.map V.int).take 3)) := by
      rw [hc]
      exact congrArg (fun l => some (HO.lst l)) (zga (nm.map V.int) 3)
    have l3 : ((nm.map V.int).take 3).length ≤ 3 := by
      rw [List.length_take]
      omega
    refine ⟨la, lc, _, _, rfl, rfl, sc _ _ ha, hc, ?_, fun ld Hd sd nd hd' => ⟨ld, rfl, ⟨_, SqL.of hd'⟩, ?_⟩⟩
    · show 2 + ((nm.map V.int).take 3).length ≤ _
      omega
    have sad := sa.trans (sc.trans sd)
    have lz : ([V.int k.2.1.n, V.int o] ++ (nm.map V.int).take 3).length ≤ 5 := by
      rw [List.length_append]
      show 2 + _ ≤ 5
      omega
    refine zdR (fun _ t => FlP t) (SqL.of hd') (fun i x Hh Q' hx sh q' => q' Hh (Same.refl _)) ?_ (zaA (by omega)) (fun Ln H12 bn s12 nLn hLn lbn fbn hbn => ?_)
    · intro i y Hh Q' hi sh q'
      have fy : zaM y = true := by
        rcases List.mem_append.mp (List.mem_of_getElem? hi) with z | z
        · exact List.all_eq_true.mp (show [V.int k.2.1.n, V.int o].all zaM = true from rfl) y z
        · exact List.all_eq_true.mp (zaY nm) y (List.mem_of_mem_take z)
      exact ⟨_, rfl, _, rfl, d.1, _, _, _, rfl, rfl, SqT.of (sh _ _ (sad _ _ (s311 _ _ d1))), zdN (j := 0) rfl, sz 2 (by decide), fun p Hp sp np hp => q' p _ Hp sp ⟨y, _, rfl, fy, d2⟩ hp⟩
    have PL12 := PL.same (sad.trans s12)
    refine ⟨L, Ln, _, _, rfl, rfl, PL12.at_, hLn, ?_, fun Lx H13 s13 nLx hLx => ?_⟩
    · rw [List.length_map, List.length_map]
      omega
    refine ⟨Lx, bs' ++ bn, _, rfl, s11.trans (sad.trans (s12.trans s13)), ⟨by rw [hLx, List.map_append], fun b' hb' => ?_⟩, by rw [List.length_append]; omega⟩
    rcases List.mem_append.mp hb' with hb' | hb'
    · exact (PL12.same s13).fl b' hb'
    · obtain ⟨i, hi⟩ := List.getElem?_of_mem hb'
      exact ⟨fbn i b' hi, s13 _ _ (hbn b' hb')⟩
  rintro σ H11 ⟨L, bs', v14, rfl, s11, PL, lbs⟩
  have lbs : bs'.length ≤ 15004 := by
    have cl := zci (ds.map fun d => V.ref d.1) (some (-1)) none
    rw [List.length_map] at cl
    omega
  have s911 := s10.trans s11
  have P11 := P7.same (s8.trans (s9.trans s911))
  refine ⟨_, rfl, _, rfl, Lp, L, _, _, rfl, rfl, P11.at_, PL.at_, by rw [List.length_map, List.length_map]; omega, fun Lz H12 s12 nLz hLz => ⟨Lz, rfl, ⟨_, SqL.of hLz⟩, ?_⟩⟩
  rw [← List.map_append] at hLz
  have fz : ∀ b', b' ∈ ps ++ bs' → FlP b'.2 ∧ H12 b'.1 = some (.tup b'.2) := fun b' hb' => by
    rcases List.mem_append.mp hb' with hb' | hb'
    · exact (P11.same s12).fl b' hb'
    · exact (PL.same s12).fl b' hb'
  have s312 := s39.trans (s911.trans s12)
  have s012 := s03.trans s312
  obtain ⟨n, WU⟩ := zgj (K := K) (H := H3) (us := us) (h := h.toNat) (b := b) (c0 := c0) fun u hu => (al u hu).row T
  rw [eds] at WU
  refine zdf (K := K) (a := Lz) (xs := (ps ++ bs').map fun b => V.ref b.1) (fun i σ H' => ∃ v15 v16 : Option V, σ = [some (.ref l), some (.int h), some (.int b), some (.int k.2.1.n), some (.int c), some (.ref F), some (.ref D1), some (.int (b + m)), some (.ref D3), some (.ref Dk), some (.ref D5), some (.int o), some (.ref Lp), some (.ref L), v14, v15, v16] ∧ Same H12 H')
    ⟨_, _, rfl, Same.refl _⟩ (fun i σ H' _ ⟨_, _, _, s⟩ => SqL.of (s _ _ hLz)) ?_ ?_
  · rintro i y σ H13 hi ⟨v15, v16, rfl, s13⟩
    rw [List.getElem?_map] at hi
    cases eb : (ps ++ bs')[i]? with
    | none => rw [eb] at hi; cases hi
    | some b' =>
      rw [eb] at hi
      cases hi
      obtain ⟨⟨y1, y2, ey, f1, f2⟩, hb'⟩ := fz b' (List.mem_of_getElem? eb)
      rw [ey] at hb'
      have s013 := s012.trans s13
      refine ⟨b'.1, _, rfl, SqT.of (s13 _ _ hb'), rfl, _, _, rfl, _, _, rfl, rfl, ?_⟩
      refine ⟨_, rfl, _, rfl, _, rfl, _, rfl, _, rfl, _, rfl, l, .ref D3, y1, y2, xs, h, b, rfl, hI.same s013, h0, b0, b1, s013 _ _ hT, f1, f2, .inr ⟨D3, _, n, rfl, (s312.trans s13) _ _ hD3, by rw [hc0]; exact WU.same (s312.trans s13)⟩, fun H14 s14 => ⟨_, rfl, iteF ⟨_, _, rfl, s13.trans s14⟩⟩⟩
  rintro σ H13 ⟨v15, v16, rfl, s13⟩
  have s313 := s312.trans s13
  have hds13 : ∀ d, d ∈ ds → H13 d.1 = some (.tup (d.2.1 :: .ref d.2.2.1 :: d.2.2.2.1)) ∧ zaM d.2.1 = true ∧ (H13 d.2.2.1 = some (.lst d.2.2.2.2) ∨ H13 d.2.2.1 = some (.tup d.2.2.2.2)) ∧ d.2.2.2.2.length ≤ 1000 ∧ d.2.2.2.2.all zaM = true := fun d hd => by
    obtain ⟨a, b, c, e⟩ := hds d hd
    exact ⟨s313 _ _ a, b, c.imp (s313 _ _) (s313 _ _), e⟩
  have hD13 := s313 _ _ hD3
  refine ⟨_, rfl, D3, rfl, ⟨_, SqL.of hD13⟩, ?_⟩
  refine zjy hD13 hds13 (by omega) (fun Dg H14 bg s14 nDg hDg lg hg => ?_)
  have s414 := (s5.trans s59).trans ((s911.trans s12).trans (s13.trans s14))
  refine ⟨_, rfl, ⟨Dg, Dk, _, _, rfl, rfl, .inr ⟨SqL.of hDg, SqL.of (s414 _ _ hDk)⟩, by rw [List.length_map, List.length_map, lg, lb], fun j u' v hu' hv => ?_⟩, _, rfl, iteF ?_⟩
  · rw [List.getElem?_map] at hu' hv
    cases e1 : bg[j]? with
    | none => rw [e1] at hu'; cases hu'
    | some g =>
      cases e2 : bs[j]? with
      | none => rw [e2] at hv; cases hv
      | some g2 =>
        rw [e1] at hu'
        rw [e2] at hv
        cases hu'
        cases hv
        obtain ⟨g1, g1'⟩ := hg j g e1
        obtain ⟨g3, g3'⟩ := hb j g2 e2
        obtain ⟨d, ed⟩ : ∃ d, ds[j]? = some d := by
          have := (List.getElem?_eq_some_iff.mp e1).1
          exact ⟨_, List.getElem?_eq_getElem (by omega)⟩
        unfold itm at g1 g3
        unfold itl at g1' g3'
        rw [ed] at g1 g1' g3 g3'
        obtain ⟨_, d2, _, _, d5⟩ := hds d (List.mem_of_getElem? ed)
        refine Deq.tup (SqT.of g1) (SqT.of (s414 _ _ g3)) rfl fun i p p' hp hp' => ?_
        match i with
        | 0 => cases hp; cases hp'; exact Deq.flat _ d2
        | 1 =>
          cases hp
          cases hp'
          refine Deq.lst (SqL.of g1') (SqL.of (s414 _ _ g3')) rfl fun i p p' hp hp' => ?_
          have hp : d.2.2.2.2[i]? = some p := hp
          have hp' : d.2.2.2.2[i]? = some p' := hp'
          rw [hp] at hp'
          cases hp'
          exact Deq.flat _ (List.all_eq_true.mp d5 p (List.mem_of_getElem? hp))
        | _ + 2 => cases hp
  have s214 := s3.trans (s313.trans s14)
  have s014 := s02.trans s214
  have sh : shw h.toNat b c0 (m + 1) (ws.map fun r => V.ref r.1).length (.int k.2.1.n) (.int (b + m)) = true := by
    unfold shw
    dsimp only
    rw [mw, lwn, decide_eq_true rfl, decide_eq_true (Nat.succ_pos m), Nat.add_sub_cancel, decide_eq_true rfl, decide_eq_true hj, decide_eq_false hnl]
    rfl
  refine ⟨_, rfl, _, rfl, _, rfl, _, rfl, _, rfl, _, rfl, l, .ref D1, _, _, xs, h, b, rfl, hI.same s014, h0, b0, b1, s014 _ _ hT, rfl, rfl, .inr ⟨D1, _, m + 1, rfl, s214 _ _ RW.at_, by rw [hc0]; exact WW.same s214, fun H15 s15 => ?_⟩⟩
  rw [hc0, sh]
  exact ⟨_, _, rfl, rfl, q H15 (s014.trans s15)⟩
def ThG (K : PySem.W.Frag) (H : Hp) (u : V) : Prop := NotL K H u ∨ ∃ D us, u = .ref D ∧ H D = some (.lst us) ∧ ∀ v, v ∈ us → ∀ t ws, ∃ r, RowG K H v t ws r
theorem ThG.same {H H' : Hp} {u : V} (s : Same H H') (h : ThG K H u) : ThG K H' u :=
  h.imp (fun a => a.same s) fun ⟨D, us, e, a, b⟩ => ⟨D, us, e, s _ _ a, fun v hv t ws => let ⟨r, g⟩ := b v hv t ws; ⟨r, g.same s⟩⟩
theorem zhI {H : Hp} {D : Addr} {v : V} (hD : H D = some (.lst [v])) (g : ∀ t ws, RowG K H v t ws false) : ThG K H (.ref D) :=
  .inr ⟨D, _, rfl, hD, fun u hu t ws => by
    rw [List.mem_singleton.mp hu]
    exact ⟨_, g t ws⟩⟩
theorem zdK : FnScope ["_law_script", "_law_k", "_law_cell_here", "_law_chores_here", "_law_hands", "_law_begin", "_law_thing", "_law_numbers", "_law_number"] ["_law_script"] (zad zeQ) := ⟨rfl, rfl, rfl, by decide +kernel, rfl, by decide +kernel, by decide +kernel⟩
theorem zmL (D : Dfn K mg "law" zeQ ["_law_script"] f fd) (T : Txt K mg c_WaitError c_NoPiece c_NoEnd) (zdn : Cal P w K mg base "_law_cell" 1 ["_law_script", "_law_k"] (zkN K)) (zaX : Cal P w K mg base "_law_mix" 1 ["_law_cell_here", "_law_k"] zge) (zd0 : Cal P w K mg base "_law_case" 5 ["_law_cell_here", "_law_most"] (zkV K)) (zb1 : Cal P w K mg base "_law_asked" 12 ["_law_chores_here", "_law_hands", "_law_begin", "_law_number", "_law_turn_here", "_law_rows"] (zlE K tT)) (zdz : Cal P w K mg base "_law_right" 13 ["_law_chores_here", "_law_hands", "_law_begin", "_law_number", "_law_cell_here"] (zhH K tT)) : FnOk P w K mg base CX0 14 f fd ["_law_script"] (ziM K tT) := by
  refine D.F.ok zdK (fun vs H Q E h => ?_) (fun cdv A outer s H vs Q E hr h => ?_)
  · obtain ⟨a, ns, rfl, _⟩ := h
    rfl
  obtain ⟨a, ns, rfl, hS, h63, hT, q⟩ := h
  refine ⟨_, (zae (zc2 PassesOwn.never rfl (zfE rfl T.zjn (zaa (zax (zfG rfl) rfl T.zmz zkx (zaa zab (zaa (zax (ziv rfl) rfl T.znf zl3 (zaa zab (zaa (zax zaF rfl T.zdS zcB (zaa (pv 0) zac)) zac))) zac))) zac)) (zaD (i := 1) zdK.nd rfl (Or.inl rfl)) (zae (zav (i := 2) zdK.nd rfl (Or.inl rfl) (zal zdn (hr.mono (by decide)) rfl (zaa (pv 0) (zaa (pv 1) zac))))
      (zae (zc1 (zal zd0 (hr.mono (by decide)) rfl (zaa (pv 2) (zaa (zaq zaZ (zaz (zaa zab (zaa zab zac))) (zbs zdC rfl T.zh3 ze4 (zaa (zc3 zdM (pv 1) zab (zaw _)) zac)) (fun _ _ => rfl)) zac))) (zca rfl (zas (zaD (i := 3) zdK.nd rfl (Or.inl rfl)) (zas (zaD (i := 4) zdK.nd rfl (Or.inl rfl)) (zas (zaD (i := 5) zdK.nd rfl (Or.inl rfl)) zbp)))))
      (zae (zlD PassesOwn.never rfl (zkk (zaz (pai (zag zcT (zag zab (zag zkr (zag (zaB zac) (zag zhp (zag (zaz (zaa zcT zac)) (zag (zaz (zaa zab zac)) (zag (zaz (zaa (zaB zac) zac)) (zag (zaz (zaa (zaB (zaa (pv 5) zac)) zac)) (zag (zaz (zaa (pv 5) (zaa (zaz zac) zac))) (zag (zaz zac) zbw)))))))))))))) (zaD (i := 6) zdK.nd rfl (Or.inl rfl)) (zaf (zbb (zbK (zbI (zal zb1 (hr.mono (by decide)) rfl (pai (zag (pv 3) (zag (pv 4) (zag (pv 5) (zag zab (zag (pv 5) (zag (pv 6) zbw)))))))))) (zaf (zau zcz)) zaO)))
      (zae (zdj (i := 7) (nk := 2) (g := (gTup K 2 (zc0 (zcb 0) (zc0 (zcb 1) gNil)))) (N := ["_law_claim", "_law_left"]) (js := []) zdK.nd rfl rfl rfl (CompScopeN.of rfl rfl rfl rfl rfl (by decide +kernel) rfl rfl rfl) (fun _ _ _ _ _ hn => (zca rfl (zas (hn 0 _ _ rfl (by decide)) (zas (hn 1 _ _ rfl (by decide)) zbp)))) (zaE (pv 3)) (fun _ _ _ _ _ => (zdF (zap zdM (pv 1) zab (zaw _)))) (fun _ _ _ _ _ => (zaq (r := rIxT K) zao (pv 0) zab (fun _ _ => rfl))))
      (zae (zbb (zap (zjc hr.units0) (pv 7) (zaz zac) (zaw _)) (zaf zgu) zaO)
      (zae (zav (i := 8) zdK.nd rfl (Or.inl rfl) (zaq zaZ (pv 7) (zat zcU (zal zaX (hr.mono (by decide)) rfl (zaa (pv 2) (zaa zab zac))) (zax zaF rfl T.zdS zcB (zaa (pv 7) zac))) (fun _ _ => rfl)))
      (zaf (zbb (zbK (zbI (zal zdz (hr.mono (by decide)) rfl (pai (zag (pv 3) (zag (pv 4) (zag (pv 5) (zag (pv 8) (zag (zal zaX (hr.mono (by decide)) rfl (zaa (zal zdn (hr.mono (by decide)) rfl (zaa (pv 0) (zaa (zat za2 (pv 1) zab) zac))) (zaa zab zac))) zbw))))))))) (zaf (zau zcz)) zaO)))))))))
      (zaf (zau zcz))), ?_⟩
  refine ⟨_, rfl, a, _, rfl, .inl hS, _, _, rfl, _, _, rfl, _, rfl, ?_, ?_, ?_⟩
  · split <;> omega
  · have := h63
    have ml : (ns.map V.int).length = ns.length := List.length_map _
    repeat' split
    all_goals omega
  refine zfF (fun i σ H' => ∃ v1 v2 v3 v4 v5 v6 v7 v8 : Option V, σ = [some (.ref a), v1, v2, v3, v4, v5, v6, v7, v8] ∧ Same H H') ⟨_, _, _, _, _, _, _, _, rfl, Same.refl _⟩ ?_ ?_
  rotate_left
  · rintro σ H1 ⟨v1, v2, v3, v4, v5, v6, v7, v8, rfl, s1⟩
    exact q H1
  rintro i σ H1 hi ⟨v1, v2, v3, v4, v5, v6, v7, v8, rfl, s1⟩
  refine ⟨_, rfl, _, rfl, a, ns, _, rfl, s1.seq hS, by omega, fun cell => ?_⟩
  refine ⟨_, rfl, sz 2 (by decide), fun l2 H2 s2 n2 h2 => ⟨_, rfl, _, _, rfl, rfl, .inr ⟨_, rfl, ?_⟩⟩⟩
  have hv : ∃ mo : Int, atI [V.int 13, V.int 7] (if decide ((0 : Int) < 0 + (i : Int)) = true then 1 else 0) = some (.int mo) ∧ 0 < mo ∧ mo ≤ 13 := by
    cases decide ((0 : Int) < 0 + (i : Int)) with
    | false => exact ⟨13, rfl, by decide, by decide⟩
    | true => exact ⟨7, rfl, by decide, by decide⟩
  obtain ⟨mo, em, mo0, mo1⟩ := hv
  refine ⟨l2, _, _, _, rfl, rfl, SqL.of h2, em, cell, mo, rfl, mo0, mo1, fun p3 l xs h b H3 s3 hp nl hI h0 b0 b1 h97 => ?_⟩
  refine ⟨p3, _, rfl, SqT.of hp, rfl, _, _, rfl, _, _, rfl, _, _, rfl, rfl, ?_⟩
  have s03 := s1.trans (s2.trans s3)
  refine ⟨sz 0 (by decide), fun pA HA sA nA hA => fun pB HB sB nB hB => ?_⟩
  refine ⟨sz 1 (by decide), fun pC HC sC nC hC => ?_⟩
  refine ⟨sz 1 (by decide), fun pD HD sD nD hD => ?_⟩
  refine ⟨sz 0 (by decide), fun pE HE sE nE hE => ?_⟩
  refine ⟨sz 1 (by decide), fun pF HF sF nF hF => ?_⟩
  refine ⟨_, rfl, sz 1 (by decide), fun pG HG sG nG hG => ?_⟩
  refine ⟨sz 1 (by decide), fun pH HH sH nH hH => ?_⟩
  refine ⟨_, rfl, ?_⟩
  refine ⟨sz 0 (by decide), fun pI HI sI nI hI' => ?_⟩
  refine ⟨sz 2 (by decide), fun pJ HJ sJ nJ hJ => ?_⟩
  refine ⟨sz 0 (by decide), fun pK HK sK nK hK => ?_⟩
  refine ⟨sz 11 (by decide), fun pL HL sL nL hL => ?_⟩
  have sKL := sL
  have sJL := sK.trans sKL
  have sIL := sJ.trans sJL
  have sHL := sI.trans sIL
  have sGL := sH.trans sHL
  have sFL := sG.trans sGL
  have sEL := sF.trans sFL
  have sDL := sE.trans sEL
  have sCL := sD.trans sDL
  have sBL := sC.trans sCL
  have sAL := sB.trans sBL
  have s3L := sA.trans sAL
  have all : ∀ u, u ∈ [V.non, V.int 5, V.str (Str.ofString ""), V.ref pA, V.ref pB, V.ref pC, V.ref pD, V.ref pF, V.ref pH, V.ref pJ, V.ref pK] → ThG K HL u := by
    intro u hu
    rcases List.mem_cons.mp hu with rfl | hu
    · exact .inl ⟨_, .non, T.q_NoneType_list⟩
    rcases List.mem_cons.mp hu with rfl | hu
    · exact .inl ⟨_, .int 5, T.zcE⟩
    rcases List.mem_cons.mp hu with rfl | hu
    · exact .inl ⟨_, .str _, T.zcF⟩
    rcases List.mem_cons.mp hu with rfl | hu
    · exact .inl ⟨_, .tup (sAL _ _ hA), T.zbF⟩
    rcases List.mem_cons.mp hu with rfl | hu
    · exact .inl ⟨_, .dK (sBL _ _ hB), T.zcp⟩
    rcases List.mem_cons.mp hu with rfl | hu
    · exact zhI (sCL _ _ hC) fun t ws => .inl ⟨⟨_, .non, T.q_NoneType_tuple⟩, rfl⟩
    rcases List.mem_cons.mp hu with rfl | hu
    · exact zhI (sDL _ _ hD) fun t ws => .inl ⟨⟨_, .int 5, T.zbW⟩, rfl⟩
    rcases List.mem_cons.mp hu with rfl | hu
    · exact zhI (sFL _ _ hF) fun t ws => .inr (.inl ⟨pE, _, rfl, sEL _ _ hE, by decide, rfl⟩)
    rcases List.mem_cons.mp hu with rfl | hu
    · exact zhI (sHL _ _ hH) fun t ws => .inr (.inl ⟨pG, _, rfl, sGL _ _ hG, (by show (1 : Nat) ≠ 2; decide), rfl⟩)
    rcases List.mem_cons.mp hu with rfl | hu
    · refine .inr ⟨pJ, _, rfl, sJL _ _ hJ, fun v hv t ws => ⟨false, .inl ⟨?_, rfl⟩⟩⟩
      rcases List.mem_cons.mp hv with rfl | hv
      · exact ⟨_, .int b, T.zbW⟩
      · rw [List.mem_singleton.mp hv]
        exact ⟨_, .lst (sIL _ _ hI'), T.zb5⟩
    rw [List.mem_singleton.mp hu]
    exact .inr ⟨pK, [], rfl, sKL _ _ hK, fun v hv => by cases hv⟩
  clear hA hB hC hD hE hF hG hH hI' hJ hK nA nB nC nD nE nF nG nH nI nJ nK nL
  generalize [V.non, V.int 5, V.str (Str.ofString ""), V.ref pA, V.ref pB, V.ref pC, V.ref pD, V.ref pF, V.ref pH, V.ref pJ, V.ref pK] = us at all hL
  have s0L := s03.trans s3L
  have hIL := hI.same s3L
  refine ⟨pL, rfl, ⟨_, SqL.of hL⟩, ?_⟩
  refine zdf (K := K) (a := pL) (xs := us) (fun j σ H' => ∃ v6 : Option V, σ = [some (.ref a), some (.int (0 + (i : Int))), some (.int cell), some (.ref l), some (.int h), some (.int b), v6, v7, v8] ∧ Same HL H') ⟨_, rfl, Same.refl _⟩ (fun i σ H' _ ⟨_, _, s⟩ => SqL.of (s _ _ hL)) ?_ ?_
  · rintro j x σ H4 hj ⟨v6, rfl, s4⟩
    have th := (all x (List.mem_of_getElem? hj)).same s4
    have s04 := s0L.trans s4
    refine ⟨_, rfl, _, rfl, _, rfl, _, rfl, _, rfl, l, x, _, _, xs, h, b, rfl, hIL.same s4, h0, b0, by omega, s04 _ _ hT, rfl, rfl, ?_, fun H5 s5 => ⟨_, rfl, iteF ⟨_, rfl, s4.trans s5⟩⟩⟩
    rcases th with th | ⟨D1, us', rfl, hD1, g⟩
    · exact .inl th
    · obtain ⟨n, W⟩ := zgj (K := K) (h := h.toNat) (b := b) (c0 := bhC [] (xs.map (·.2))) g
      exact .inr ⟨D1, us', n, rfl, hD1, W⟩
  rintro σ H4 ⟨v6, rfl, s4⟩
  have hI4 := hIL.same s4
  have s04 := s0L.trans s4
  have ml : (xs.map fun q => V.ref q.1).length = xs.length := List.length_map _
  have x40 := hI.len
  refine ⟨_, rfl, l, rfl, ⟨_, SqL.of hI4.chs.at_⟩, ?_⟩
  refine zdk (xs := xs.map fun q => V.ref q.1) (sts 2 xs fun k => [.ref (kcOf H4 k.1), .int k.2.2]) (tak xs fun k => decide (0 < k.2.2)) (itm xs fun k => V.int k.2.1.n) (SqL.of hI4.chs.at_) (zdr fun _ => rfl) ?_ ?_ ?_ (zaA (by rw [ml]; omega)) (fun D5 H5 s5 nD5 hD5 => ?_)
  · intro j y Hh os R' hyj sh ol r'
    obtain ⟨o1, o2, rfl⟩ := len2 ol
    rw [List.getElem?_map] at hyj
    cases ek : xs[j]? with
    | none => rw [ek] at hyj; cases hyj
    | some z =>
      rw [ek] at hyj
      cases hyj
      unfold sts at r'
      rw [ek] at r'
      exact ⟨z.1, _, rfl, SqT.of (sh _ _ (hI4.chs.ch z (List.mem_of_getElem? ek)).kc.1), rfl, _, _, rfl, _, _, rfl, rfl, r'⟩
  · intro j y Hh Q' hyj sh q'
    rw [List.getElem?_map] at hyj
    cases ek : xs[j]? with
    | none => rw [ek] at hyj; cases hyj
    | some z =>
      have zz := q' Hh (Same.refl _)
      unfold tak at zz
      unfold sts
      rw [ek] at zz ⊢
      exact ⟨_, rfl, _, _, rfl, rfl, _, rfl, zz⟩
  · intro j y Hh Q' hyj _ sh q'
    rw [List.getElem?_map] at hyj
    cases ek : xs[j]? with
    | none => rw [ek] at hyj; cases hyj
    | some z =>
      have zz := q' Hh (Same.refl _)
      unfold itm at zz
      unfold sts
      rw [ek] at zz ⊢
      obtain ⟨_, _, c1, _, _⟩ := id (hI4.chs.ch z (List.mem_of_getElem? ek)).kc.2.ex
      exact ⟨_, rfl, _, _, _, _, rfl, rfl, SqT.of (sh _ _ c1), rfl, zz⟩
  rw [ml, zcj] at hD5
  generalize hfs : (xs.filter fun k => decide (0 < k.2.2)) = fs at hD5
  have hfs : ∀ k, k ∈ fs → k ∈ xs ∧ 0 < k.2.2 := fun k hk => by
    rw [← hfs] at hk
    obtain ⟨a1, a2⟩ := List.mem_filter.mp hk
    exact ⟨a1, of_decide_eq_true a2⟩
  refine ⟨_, rfl, sz 0 (by decide), fun l6 H6 s6 n6 h6 => ⟨D5, l6, _, rfl, rfl, SqL.of (s6 _ _ hD5), SqL.of h6, _, rfl, ?_⟩⟩
  have s06 := s04.trans (s5.trans s6)
  have mf : (fs.map fun k => V.int k.2.1.n).length = fs.length := List.length_map _
  cases ef : fs with
  | nil => exact iteT ⟨_, _, _, _, _, _, _, _, rfl, s06⟩
  | cons k0 kt =>
    rw [← ef]
    have fl : 0 < fs.length := by rw [ef, List.length_cons]; omega
    have ne : (fs.map fun k => V.int k.2.1.n).isEmpty = false := by
      rw [ef]
      rfl
    rw [ne]
    refine iteF ?_
    have hD6 := s6 _ _ hD5
    refine ⟨_, rfl, _, rfl, cell, _, rfl, by decide, fun r r0 => ⟨_, rfl, D5, _, rfl, .inl (SqL.of hD6), _, _, rfl, rfl, by rw [mf]; omega, ?_⟩⟩
    dsimp only
    rw [mf]
    have a0 := Int.emod_nonneg r (show (fs.length : Int) ≠ 0 by omega)
    have a1 := Int.emod_lt_of_pos r (show (0 : Int) < (fs.length : Int) by omega)
    obtain ⟨j, ej⟩ : ∃ j : Nat, r % (fs.length : Int) = (j : Int) := ⟨(r % (fs.length : Int)).toNat, by omega⟩
    rw [ej]
    obtain ⟨k, ek⟩ : ∃ k, fs[j]? = some k := ⟨_, List.getElem?_eq_getElem (by omega)⟩
    obtain ⟨hk, pos⟩ := hfs k (List.mem_of_getElem? ek)
    refine ⟨D5, _, _, _, rfl, rfl, SqL.of hD6, zdN (v := .int k.2.1.n) (by rw [List.getElem?_map, ek]; rfl), ?_⟩
    refine ⟨_, rfl, _, rfl, _, rfl, _, rfl, _, rfl, _, rfl, _, _, rfl, rfl, a, ns, _, rfl, s06.seq hS, by omega, fun cell2 => ⟨cell2, _, rfl, by decide, fun r2 r20 => ?_⟩⟩
    exact ⟨l, xs, k, h, b, r2, rfl, hI4.same (s5.trans s6), hk, pos, h0, b0, by omega, s06 _ _ hT, fun H7 s7 => ⟨_, rfl, iteF ⟨_, _, _, _, _, _, _, _, rfl, s06.trans s7⟩⟩⟩
end
theorem all_mk {l : PySem.W.OpenLaw} {w : World} {K : PySem.W.Frag} {h : Heap} {mg : Str → Option Value} {fa f0 f1 f2 f3 f4 f5 f6 f7 f8 f9 f10 f11 f12 f13 f14 f15 f16 f17 f18 f19 f20 f21 f22 f23 f24 f25 f26 f27 f28 f29 f30 f31 f32 f33 f34 f35 : Addr} (X : K.In h) (G : h.Ns mainGlobals mg) (hfa : mg "law" = some (.ref fa))
    {od0 an0 od1 an1 od2 an2 od3 an3 od4 an4 od5 an5 od6 an6 od7 an7 od8 an8 od9 an9 od10 an10 od11 an11 od12 an12 od13 an13 od14 an14 od15 an15 od16 an16 od17 an17 od18 an18 od19 an19 od20 an20 od21 an21 od22 an22 od23 an23 od24 an24 od25 an25 od26 an26 od27 an27 od28 an28 od29 an29 od30 an30 od31 an31 od32 an32 od33 an33 od34 an34 od35 an35 : Option Addr} {sl0 sl1 sl2 sl3 sl4 sl5 sl6 sl7 sl8 sl9 sl10 sl11 sl12 sl13 sl14 sl15 sl16 sl17 sl18 sl19 sl20 sl21 sl22 sl23 sl24 sl25 sl26 sl27 sl28 sl29 sl30 sl31 sl32 sl33 sl34 sl35 : Array (Option Value)} {oc0 kV0 dc0 pm0 cd0 ct0 oc1 kV1 dc1 pm1 cd1 ct1 oc2 kV2 dc2 pm2 cd2 ct2 oc3 kV3 dc3 pm3 cd3 ct3 oc4 kV4 dc4 pm4 cd4 ct4 oc5 kV5 dc5 pm5 cd5 ct5 oc6 kV6 dc6 pm6 cd6 ct6 oc7 kV7 dc7 pm7 cd7 ct7 oc8 kV8 dc8 pm8 cd8 ct8 oc9 kV9 dc9 pm9 cd9 ct9 oc10 kV10 dc10 pm10 cd10 ct10 oc11 kV11 dc11 pm11 cd11 ct11 oc12 kV12 dc12 pm12 cd12 ct12 oc13 kV13 dc13 pm13 cd13 ct13 oc14 kV14 dc14 pm14 cd14 ct14 oc15 kV15 dc15 pm15 cd15 ct15 oc16 kV16 dc16 pm16 cd16 ct16 oc17 kV17 dc17 pm17 cd17 ct17 oc18 kV18 dc18 pm18 cd18 ct18 oc19 kV19 dc19 pm19 cd19 ct19 oc20 kV20 dc20 pm20 cd20 ct20 oc21 kV21 dc21 pm21 cd21 ct21 oc22 kV22 dc22 pm22 cd22 ct22 oc23 kV23 dc23 pm23 cd23 ct23 oc24 kV24 dc24 pm24 cd24 ct24 oc25 kV25 dc25 pm25 cd25 ct25 oc26 kV26 dc26 pm26 cd26 ct26 oc27 kV27 dc27 pm27 cd27 ct27 oc28 kV28 dc28 pm28 cd28 ct28 oc29 kV29 dc29 pm29 cd29 ct29 oc30 kV30 dc30 pm30 cd30 ct30 oc31 kV31 dc31 pm31 cd31 ct31 oc32 kV32 dc32 pm32 cd32 ct32 oc33 kV33 dc33 pm33 cd33 ct33 oc34 kV34 dc34 pm34 cd34 ct34 oc35 kV35 dc35 pm35 cd35 ct35 : Value} {dt10 : Addr} {to10 : Obj} {tn10 : Nat}
    (a0 : PySem.W.nsIn K mainGlobals "is_whole" = some (some (.ref f0))) (l0 : K.lookup f0 = some ⟨oc0, od0, .func (PySem.W.fnOf "is_whole" "is_whole" (zan zbN) (zaj zbN) (zad zbN) .none kV0 dc0 pm0 an0 cd0 ct0), sl0⟩) (c0 : PySem.W.codeIn K cd0 "is_whole" = true) (k0 : PySem.W.keepIn K (.ref f0) = true)
    (a1 : PySem.W.nsIn K mainGlobals "common_divisor" = some (some (.ref f1))) (l1 : K.lookup f1 = some ⟨oc1, od1, .func (PySem.W.fnOf "common_divisor" "common_divisor" (zan zaP) (zaj zaP) (zad zaP) .none kV1 dc1 pm1 an1 cd1 ct1), sl1⟩) (c1 : PySem.W.codeIn K cd1 "common_divisor" = true) (k1 : PySem.W.keepIn K (.ref f1) = true)
    (a2 : PySem.W.nsIn K mainGlobals "common_bottom" = some (some (.ref f2))) (l2 : K.lookup f2 = some ⟨oc2, od2, .func (PySem.W.fnOf "common_bottom" "common_bottom" (zan zaS) (zaj zaS) (zad zaS) .none kV2 dc2 pm2 an2 cd2 ct2), sl2⟩) (c2 : PySem.W.codeIn K cd2 "common_bottom" = true) (k2 : PySem.W.keepIn K (.ref f2) = true)
    (a3 : PySem.W.nsIn K mainGlobals "place_key" = some (some (.ref f3))) (l3 : K.lookup f3 = some ⟨oc3, od3, .func (PySem.W.fnOf "place_key" "place_key" (zan zbx) (zaj zbx) (zad zbx) .none kV3 dc3 pm3 an3 cd3 ct3), sl3⟩) (c3 : PySem.W.codeIn K cd3 "place_key" = true) (k3 : PySem.W.keepIn K (.ref f3) = true)
    (a4 : PySem.W.nsIn K mainGlobals "claims_in_order" = some (some (.ref f4))) (l4 : K.lookup f4 = some ⟨oc4, od4, .func (PySem.W.fnOf "claims_in_order" "claims_in_order" (zan zak) (zaj zak) (zad zak) .none kV4 dc4 pm4 an4 cd4 ct4), sl4⟩) (c4 : PySem.W.codeIn K cd4 "claims_in_order" = true) (k4 : PySem.W.keepIn K (.ref f4) = true)
    (a5 : PySem.W.nsIn K mainGlobals "numbers_in_order" = some (some (.ref f5))) (l5 : K.lookup f5 = some ⟨oc5, od5, .func (PySem.W.fnOf "numbers_in_order" "numbers_in_order" (zan zaH) (zaj zaH) (zad zaH) .none kV5 dc5 pm5 an5 cd5 ct5), sl5⟩) (c5 : PySem.W.codeIn K cd5 "numbers_in_order" = true) (k5 : PySem.W.keepIn K (.ref f5) = true)
    (a6 : PySem.W.nsIn K mainGlobals "numbers_worked" = some (some (.ref f6))) (l6 : K.lookup f6 = some ⟨oc6, od6, .func (PySem.W.fnOf "numbers_worked" "numbers_worked" (zan zaQ) (zaj zaQ) (zad zaQ) .none kV6 dc6 pm6 an6 cd6 ct6), sl6⟩) (c6 : PySem.W.codeIn K cd6 "numbers_worked" = true) (k6 : PySem.W.keepIn K (.ref f6) = true)
    (a7 : PySem.W.nsIn K mainGlobals "chores_behind" = some (some (.ref f7))) (l7 : K.lookup f7 = some ⟨oc7, od7, .func (PySem.W.fnOf "chores_behind" "chores_behind" (zan zaT) (zaj zaT) (zad zaT) .none kV7 dc7 pm7 an7 cd7 ct7), sl7⟩) (c7 : PySem.W.codeIn K cd7 "chores_behind" = true) (k7 : PySem.W.keepIn K (.ref f7) = true)
    (a8 : PySem.W.nsIn K mainGlobals "turn_done" = some (some (.ref f8))) (l8 : K.lookup f8 = some ⟨oc8, od8, .func (PySem.W.fnOf "turn_done" "turn_done" (zan zby) (zaj zby) (zad zby) .none kV8 dc8 pm8 an8 cd8 ct8), sl8⟩) (c8 : PySem.W.codeIn K cd8 "turn_done" = true) (k8 : PySem.W.keepIn K (.ref f8) = true)
    (a9 : PySem.W.nsIn K mainGlobals "chores_taken" = some (some (.ref f9))) (l9 : K.lookup f9 = some ⟨oc9, od9, .func (PySem.W.fnOf "chores_taken" "chores_taken" (zan za0) (zaj za0) (zad za0) .none kV9 dc9 pm9 an9 cd9 ct9), sl9⟩) (c9 : PySem.W.codeIn K cd9 "chores_taken" = true) (k9 : PySem.W.keepIn K (.ref f9) = true)
    (a10 : PySem.W.nsIn K mainGlobals "run_of" = some (some (.ref f10))) (l10 : K.lookup f10 = some ⟨oc10, od10, .func (PySem.W.fnOf "run_of" "run_of" (zan zcK) (zaj zcK) (zad zcK) (.ref dt10) kV10 dc10 pm10 an10 cd10 ct10), sl10⟩) (c10 : PySem.W.codeIn K cd10 "run_of" = true) (k10 : PySem.W.keepIn K (.ref f10) = true)
    (t10 : K.lookup dt10 = some to10) (u10 : to10.data = .seq #[.none] tn10)
    (a11 : PySem.W.nsIn K mainGlobals "are_numbers" = some (some (.ref f11))) (l11 : K.lookup f11 = some ⟨oc11, od11, .func (PySem.W.fnOf "are_numbers" "are_numbers" (zan za5) (zaj za5) (zad za5) .none kV11 dc11 pm11 an11 cd11 ct11), sl11⟩) (c11 : PySem.W.codeIn K cd11 "are_numbers" = true) (k11 : PySem.W.keepIn K (.ref f11) = true)
    (a12 : PySem.W.nsIn K mainGlobals "is_row_of" = some (some (.ref f12))) (l12 : K.lookup f12 = some ⟨oc12, od12, .func (PySem.W.fnOf "is_row_of" "is_row_of" (zan zbz) (zaj zbz) (zad zbz) .none kV12 dc12 pm12 an12 cd12 ct12), sl12⟩) (c12 : PySem.W.codeIn K cd12 "is_row_of" = true) (k12 : PySem.W.keepIn K (.ref f12) = true)
    (a13 : PySem.W.nsIn K mainGlobals "walk_run" = some (some (.ref f13))) (l13 : K.lookup f13 = some ⟨oc13, od13, .func (PySem.W.fnOf "walk_run" "walk_run" (zan zbO) (zaj zbO) (zad zbO) .none kV13 dc13 pm13 an13 cd13 ct13), sl13⟩) (c13 : PySem.W.codeIn K cd13 "walk_run" = true) (k13 : PySem.W.keepIn K (.ref f13) = true)
    (a14 : PySem.W.nsIn K mainGlobals "is_piece_of" = some (some (.ref f14))) (l14 : K.lookup f14 = some ⟨oc14, od14, .func (PySem.W.fnOf "is_piece_of" "is_piece_of" (zan za6) (zaj za6) (zad za6) .none kV14 dc14 pm14 an14 cd14 ct14), sl14⟩) (c14 : PySem.W.codeIn K cd14 "is_piece_of" = true) (k14 : PySem.W.keepIn K (.ref f14) = true)
    (a15 : PySem.W.nsIn K mainGlobals "check_piece" = some (some (.ref f15))) (l15 : K.lookup f15 = some ⟨oc15, od15, .func (PySem.W.fnOf "check_piece" "check_piece" (zan za7) (zaj za7) (zad za7) .none kV15 dc15 pm15 an15 cd15 ct15), sl15⟩) (c15 : PySem.W.codeIn K cd15 "check_piece" = true) (k15 : PySem.W.keepIn K (.ref f15) = true)
    (a16 : PySem.W.nsIn K mainGlobals "last_turns" = some (some (.ref f16))) (l16 : K.lookup f16 = some ⟨oc16, od16, .func (PySem.W.fnOf "last_turns" "last_turns" (zan zbh) (zaj zbh) (zad zbh) .none kV16 dc16 pm16 an16 cd16 ct16), sl16⟩) (c16 : PySem.W.codeIn K cd16 "last_turns" = true) (k16 : PySem.W.keepIn K (.ref f16) = true)
    (a17 : PySem.W.nsIn K mainGlobals "witness_run" = some (some (.ref f17))) (l17 : K.lookup f17 = some ⟨oc17, od17, .func (PySem.W.fnOf "witness_run" "witness_run" (zan za8) (zaj za8) (zad za8) .none kV17 dc17 pm17 an17 cd17 ct17), sl17⟩) (c17 : PySem.W.codeIn K cd17 "witness_run" = true) (k17 : PySem.W.keepIn K (.ref f17) = true)
    (a18 : PySem.W.nsIn K mainGlobals "shows_latest" = some (some (.ref f18))) (l18 : K.lookup f18 = some ⟨oc18, od18, .func (PySem.W.fnOf "shows_latest" "shows_latest" (zan za1) (zaj za1) (zad za1) .none kV18 dc18 pm18 an18 cd18 ct18), sl18⟩) (c18 : PySem.W.codeIn K cd18 "shows_latest" = true) (k18 : PySem.W.keepIn K (.ref f18) = true)
    (a19 : PySem.W.nsIn K mainGlobals "_law_cell" = some (some (.ref f19))) (l19 : K.lookup f19 = some ⟨oc19, od19, .func (PySem.W.fnOf "_law_cell" "_law_cell" (zan zbP) (zaj zbP) (zad zbP) .none kV19 dc19 pm19 an19 cd19 ct19), sl19⟩) (c19 : PySem.W.codeIn K cd19 "_law_cell" = true) (k19 : PySem.W.keepIn K (.ref f19) = true)
    (a20 : PySem.W.nsIn K mainGlobals "_law_mix" = some (some (.ref f20))) (l20 : K.lookup f20 = some ⟨oc20, od20, .func (PySem.W.fnOf "_law_mix" "_law_mix" (zan zck) (zaj zck) (zad zck) .none kV20 dc20 pm20 an20 cd20 ct20), sl20⟩) (c20 : PySem.W.codeIn K cd20 "_law_mix" = true) (k20 : PySem.W.keepIn K (.ref f20) = true)
    (a21 : PySem.W.nsIn K mainGlobals "_law_draw" = some (some (.ref f21))) (l21 : K.lookup f21 = some ⟨oc21, od21, .func (PySem.W.fnOf "_law_draw" "_law_draw" (zan zbQ) (zaj zbQ) (zad zbQ) .none kV21 dc21 pm21 an21 cd21 ct21), sl21⟩) (c21 : PySem.W.codeIn K cd21 "_law_draw" = true) (k21 : PySem.W.keepIn K (.ref f21) = true)
    (a22 : PySem.W.nsIn K mainGlobals "_law_whole" = some (some (.ref f22))) (l22 : K.lookup f22 = some ⟨oc22, od22, .func (PySem.W.fnOf "_law_whole" "_law_whole" (zan zbA) (zaj zbA) (zad zbA) .none kV22 dc22 pm22 an22 cd22 ct22), sl22⟩) (c22 : PySem.W.codeIn K cd22 "_law_whole" = true) (k22 : PySem.W.keepIn K (.ref f22) = true)
    (a23 : PySem.W.nsIn K mainGlobals "_law_weight" = some (some (.ref f23))) (l23 : K.lookup f23 = some ⟨oc23, od23, .func (PySem.W.fnOf "_law_weight" "_law_weight" (zan zbi) (zaj zbi) (zad zbi) .none kV23 dc23 pm23 an23 cd23 ct23), sl23⟩) (c23 : PySem.W.codeIn K cd23 "_law_weight" = true) (k23 : PySem.W.keepIn K (.ref f23) = true)
    (a24 : PySem.W.nsIn K mainGlobals "_law_heft" = some (some (.ref f24))) (l24 : K.lookup f24 = some ⟨oc24, od24, .func (PySem.W.fnOf "_law_heft" "_law_heft" (zan zbR) (zaj zbR) (zad zbR) .none kV24 dc24 pm24 an24 cd24 ct24), sl24⟩) (c24 : PySem.W.codeIn K cd24 "_law_heft" = true) (k24 : PySem.W.keepIn K (.ref f24) = true)
    (a25 : PySem.W.nsIn K mainGlobals "_law_order" = some (some (.ref f25))) (l25 : K.lookup f25 = some ⟨oc25, od25, .func (PySem.W.fnOf "_law_order" "_law_order" (zan zbB) (zaj zbB) (zad zbB) .none kV25 dc25 pm25 an25 cd25 ct25), sl25⟩) (c25 : PySem.W.codeIn K cd25 "_law_order" = true) (k25 : PySem.W.keepIn K (.ref f25) = true)
    (a26 : PySem.W.nsIn K mainGlobals "_law_turn" = some (some (.ref f26))) (l26 : K.lookup f26 = some ⟨oc26, od26, .func (PySem.W.fnOf "_law_turn" "_law_turn" (zan zbS) (zaj zbS) (zad zbS) .none kV26 dc26 pm26 an26 cd26 ct26), sl26⟩) (c26 : PySem.W.codeIn K cd26 "_law_turn" = true) (k26 : PySem.W.keepIn K (.ref f26) = true)
    (a27 : PySem.W.nsIn K mainGlobals "_law_run" = some (some (.ref f27))) (l27 : K.lookup f27 = some ⟨oc27, od27, .func (PySem.W.fnOf "_law_run" "_law_run" (zan zcl) (zaj zcl) (zad zcl) .none kV27 dc27 pm27 an27 cd27 ct27), sl27⟩) (c27 : PySem.W.codeIn K cd27 "_law_run" = true) (k27 : PySem.W.keepIn K (.ref f27) = true)
    (a28 : PySem.W.nsIn K mainGlobals "_law_chores" = some (some (.ref f28))) (l28 : K.lookup f28 = some ⟨oc28, od28, .func (PySem.W.fnOf "_law_chores" "_law_chores" (zan zbj) (zaj zbj) (zad zbj) .none kV28 dc28 pm28 an28 cd28 ct28), sl28⟩) (c28 : PySem.W.codeIn K cd28 "_law_chores" = true) (k28 : PySem.W.keepIn K (.ref f28) = true)
    (a29 : PySem.W.nsIn K mainGlobals "_law_case" = some (some (.ref f29))) (l29 : K.lookup f29 = some ⟨oc29, od29, .func (PySem.W.fnOf "_law_case" "_law_case" (zan zbT) (zaj zbT) (zad zbT) .none kV29 dc29 pm29 an29 cd29 ct29), sl29⟩) (c29 : PySem.W.codeIn K cd29 "_law_case" = true) (k29 : PySem.W.keepIn K (.ref f29) = true)
    (a30 : PySem.W.nsIn K mainGlobals "_law_bent" = some (some (.ref f30))) (l30 : K.lookup f30 = some ⟨oc30, od30, .func (PySem.W.fnOf "_law_bent" "_law_bent" (zan zbU) (zaj zbU) (zad zbU) .none kV30 dc30 pm30 an30 cd30 ct30), sl30⟩) (c30 : PySem.W.codeIn K cd30 "_law_bent" = true) (k30 : PySem.W.keepIn K (.ref f30) = true)
    (a31 : PySem.W.nsIn K mainGlobals "_law_walks" = some (some (.ref f31))) (l31 : K.lookup f31 = some ⟨oc31, od31, .func (PySem.W.fnOf "_law_walks" "_law_walks" (zan zbC) (zaj zbC) (zad zbC) .none kV31 dc31 pm31 an31 cd31 ct31), sl31⟩) (c31 : PySem.W.codeIn K cd31 "_law_walks" = true) (k31 : PySem.W.keepIn K (.ref f31) = true)
    (a32 : PySem.W.nsIn K mainGlobals "_law_due" = some (some (.ref f32))) (l32 : K.lookup f32 = some ⟨oc32, od32, .func (PySem.W.fnOf "_law_due" "_law_due" (zan zcm) (zaj zcm) (zad zcm) .none kV32 dc32 pm32 an32 cd32 ct32), sl32⟩) (c32 : PySem.W.codeIn K cd32 "_law_due" = true) (k32 : PySem.W.keepIn K (.ref f32) = true)
    (a33 : PySem.W.nsIn K mainGlobals "_law_asked" = some (some (.ref f33))) (l33 : K.lookup f33 = some ⟨oc33, od33, .func (PySem.W.fnOf "_law_asked" "_law_asked" (zan zbD) (zaj zbD) (zad zbD) .none kV33 dc33 pm33 an33 cd33 ct33), sl33⟩) (c33 : PySem.W.codeIn K cd33 "_law_asked" = true) (k33 : PySem.W.keepIn K (.ref f33) = true)
    (a34 : PySem.W.nsIn K mainGlobals "_law_right" = some (some (.ref f34))) (l34 : K.lookup f34 = some ⟨oc34, od34, .func (PySem.W.fnOf "_law_right" "_law_right" (zan zbE) (zaj zbE) (zad zbE) .none kV34 dc34 pm34 an34 cd34 ct34), sl34⟩) (c34 : PySem.W.codeIn K cd34 "_law_right" = true) (k34 : PySem.W.keepIn K (.ref f34) = true)
    (a35 : PySem.W.nsIn K mainGlobals "law" = some (some (.ref f35))) (l35 : K.lookup f35 = some ⟨oc35, od35, .func (PySem.W.fnOf "law" "law" (zan zeQ) (zaj zeQ) (zad zeQ) .none kV35 dc35 pm35 an35 cd35 ct35), sl35⟩) (c35 : PySem.W.codeIn K cd35 "law" = true) (k35 : PySem.W.keepIn K (.ref f35) = true)
    (z_all : PySem.W.nsIn K mainGlobals "all" = some none)
    (z_any : PySem.W.nsIn K mainGlobals "any" = some none)
    (z_bool : PySem.W.nsIn K mainGlobals "bool" = some none)
    (z_enumerate : PySem.W.nsIn K mainGlobals "enumerate" = some none)
    (z_int : PySem.W.nsIn K mainGlobals "int" = some none)
    (z_isinstance : PySem.W.nsIn K mainGlobals "isinstance" = some none)
    (z_len : PySem.W.nsIn K mainGlobals "len" = some none)
    (z_list : PySem.W.nsIn K mainGlobals "list" = some none)
    (z_max : PySem.W.nsIn K mainGlobals "max" = some none)
    (z_min : PySem.W.nsIn K mainGlobals "min" = some none)
    (z_range : PySem.W.nsIn K mainGlobals "range" = some none)
    (z_sorted : PySem.W.nsIn K mainGlobals "sorted" = some none)
    (z_tuple : PySem.W.nsIn K mainGlobals "tuple" = some none)
    (z_zip : PySem.W.nsIn K mainGlobals "zip" = some none)
    (zbk : PySem.W.kitOne K (.type "list") (.type "list") = some true)
    (zaW : PySem.W.kitOne K (.type "tuple") (.type "tuple") = some true)
    (zcn : PySem.W.kitOne K (.type "int") (.type "int") = some true)
    (zbV : PySem.W.kitOne K (.type "int") (.type "bool") = some false)
    (za9 : PySem.W.kitOne K (.type "bool") (.type "bool") = some true)
    (q_NoneType_bool : PySem.W.kitOne K (.type "NoneType") (.type "bool") = some false)
    (q_NoneType_int : PySem.W.kitOne K (.type "NoneType") (.type "int") = some false)
    (zcf : PySem.W.kitOne K (.type "str") (.type "bool") = some false)
    (zco : PySem.W.kitOne K (.type "str") (.type "int") = some false)
    (q_NoneType_list : PySem.W.kitOne K (.type "NoneType") (.type "list") = some false)
    (zcE : PySem.W.kitOne K (.type "int") (.type "list") = some false)
    (zcL : PySem.W.kitOne K (.type "bool") (.type "list") = some false)
    (zcF : PySem.W.kitOne K (.type "str") (.type "list") = some false)
    (zbF : PySem.W.kitOne K (.type "tuple") (.type "list") = some false)
    (zcp : PySem.W.kitOne K (.type "dict") (.type "list") = some false)
    (q_NoneType_tuple : PySem.W.kitOne K (.type "NoneType") (.type "tuple") = some false)
    (zbW : PySem.W.kitOne K (.type "int") (.type "tuple") = some false)
    (zb5 : PySem.W.kitOne K (.type "list") (.type "tuple") = some false)
    (zcG : PySem.W.kitOne K (.type "bool") (.type "int") = some true)
    {c_WaitError c_NoPiece c_NoEnd : Addr} {cd_NoPiece : ClassData}
    {fi_NoPiece : Addr} {xod_NoPiece xan_NoPiece : Option Addr} {xsl_NoPiece : Array (Option Value)} {xoc_NoPiece xkV_NoPiece xdc_NoPiece xpm_NoPiece xcd_NoPiece xct_NoPiece : Value}
    (xcg : PySem.W.specialIn K (.builtin "object.__class__") "__get__" = some (some (.builtin "getset_descriptor.__get__"))) (xct : PySem.W.takesIn K (.builtin "object.__class__") = some true)
    (xa_NoPiece : PySem.W.nsIn K mainGlobals "NoPiece" = some (some (.ref c_NoPiece))) (xd_NoPiece : PySem.W.clsIn K c_NoPiece = some cd_NoPiece) (xt_NoPiece : PySem.W.typeIn K (.ref c_NoPiece) = some (.type "type"))
    (x1_NoPiece : PySem.W.findIn K (.ref c_NoPiece) "__setattr__" = some (some (.builtin "object.__setattr__"))) (x2_NoPiece : PySem.W.findIn K (.ref c_NoPiece) "__getattribute__" = some (some (.builtin "BaseException.__getattribute__"))) (x3_NoPiece : PySem.W.findIn K (.ref c_NoPiece) "__getattr__" = some none) (x4_NoPiece : PySem.W.hasDictIn K c_NoPiece = true)
    (x5_NoPiece : PySem.W.findIn K (.ref c_NoPiece) "__class__" = some (some (.builtin "object.__class__"))) (x6_NoPiece : PySem.W.mroIn K c_NoPiece (.type "object") = some true) (x7_NoPiece : PySem.W.keepIn K (.ref c_NoPiece) = true)
    (y1_NoPiece : PySem.W.findIn K (.ref c_NoPiece) "__init__" = some (some (.ref fi_NoPiece))) (y2_NoPiece : K.lookup fi_NoPiece = some ⟨xoc_NoPiece, xod_NoPiece, .func (PySem.W.fnOf "__init__" "NoPiece.__init__" (zan zce) (zaj zce) (zad zce) .none xkV_NoPiece xdc_NoPiece xpm_NoPiece xan_NoPiece xcd_NoPiece xct_NoPiece), xsl_NoPiece⟩) (y3_NoPiece : PySem.W.codeIn K xcd_NoPiece "NoPiece.__init__" = true) (y4_NoPiece : PySem.W.keepIn K (.ref fi_NoPiece) = true) (y5_NoPiece : PySem.W.isFn K (.ref fi_NoPiece) = true) (y6_NoPiece : PySem.W.findIn K (.ref c_NoPiece) "number" = some none)
    (z1_NoPiece : cd_NoPiece.mro = [.ref c_NoPiece, .ref c_WaitError, .type "ValueError", .type "Exception", .type "BaseException", .type "object"]) (z2_NoPiece : PySem.W.xcIn K c_NoPiece (some fi_NoPiece) = true)
    (xa_WaitError : PySem.W.nsIn K mainGlobals "WaitError" = some (some (.ref c_WaitError)))
    (xa_NoEnd : PySem.W.nsIn K mainGlobals "NoEnd" = some (some (.ref c_NoEnd)))
    (znd : [c_NoPiece].Nodup)
    : ∃ (fd fg : FuncData) (ag : Addr) (og : Obj), (∀ (s : Shared) (v : Value), BindsTo s fd ⟨[v], []⟩ [("_law_script", v)]) ∧ mg "claims_in_order" = some (.ref ag) ∧ K.lookup ag = some og ∧ og.data = .func fg ∧ ∀ (tT : Addr) (base : Heap), K.In base → base.Ns mainGlobals mg → Site K mg base fg.code tT → FnOk l.prog w K mg base CX0 14 fa fd ["_law_script"] (ziM K tT) := by
  have e := hfa.symm.trans (PySem.W.mg_of X G a35)
  cases e
  have xx_NoPiece : XCls K c_NoPiece := ⟨⟨some fi_NoPiece, z2_NoPiece⟩, x1_NoPiece, x2_NoPiece, x3_NoPiece, x4_NoPiece, x5_NoPiece, xcg, xct, x6_NoPiece⟩
  have T : Txt K mg c_WaitError c_NoPiece c_NoEnd := ⟨znd, PySem.W.mg_of X G xa_NoPiece, ⟨⟨_, xd_NoPiece, z1_NoPiece⟩, xt_NoPiece⟩, xx_NoPiece, y6_NoPiece, PySem.W.mg_none_of X G z_all, PySem.W.mg_none_of X G z_any, PySem.W.mg_none_of X G z_bool, PySem.W.mg_none_of X G z_enumerate, PySem.W.mg_none_of X G z_int, PySem.W.mg_none_of X G z_isinstance, PySem.W.mg_none_of X G z_len, PySem.W.mg_none_of X G z_list, PySem.W.mg_none_of X G z_max, PySem.W.mg_none_of X G z_min, PySem.W.mg_none_of X G z_range, PySem.W.mg_none_of X G z_sorted, PySem.W.mg_none_of X G z_tuple, PySem.W.mg_none_of X G z_zip, zbk, zaW, zcn, zbV, za9, q_NoneType_bool, q_NoneType_int, zcf, zco, q_NoneType_list, zcE, zcL, zcF, zbF, zcp, q_NoneType_tuple, zbW, zb5, zcG⟩
  have F0 := zaL (st := zbN) l0 c0 k0
  have b0 := F0.binds (ps := ["thing", "low", "high"]) fun _ _ _ _ _ _ us hl => by obtain ⟨_, _, _, rfl⟩ := ul3 hl; rfl
  have zh8 : Dfn K mg "is_whole" zbN ["thing", "low", "high"] _ _ := ⟨F0, b0, PySem.W.mg_of X G a0⟩
  have F1 := zaL (st := zaP) l1 c1 k1
  have b1 := F1.binds (ps := ["one", "other"]) fun _ _ _ _ _ _ us hl => by obtain ⟨_, _, rfl⟩ := ul2 hl; rfl
  have zee : Dfn K mg "common_divisor" zaP ["one", "other"] _ _ := ⟨F1, b1, PySem.W.mg_of X G a1⟩
  have F2 := zaL (st := zaS) l2 c2 k2
  have b2 := F2.binds (ps := ["claims"]) fun _ _ _ _ _ _ us hl => by obtain ⟨_, rfl⟩ := ul1 hl; rfl
  have zeN : Dfn K mg "common_bottom" zaS ["claims"] _ _ := ⟨F2, b2, PySem.W.mg_of X G a2⟩
  have F3 := zaL (st := zbx) l3 c3 k3
  have b3 := F3.binds (ps := ["claim", "turn", "common"]) fun _ _ _ _ _ _ us hl => by obtain ⟨_, _, _, rfl⟩ := ul3 hl; rfl
  have zgX : Dfn K mg "place_key" zbx ["claim", "turn", "common"] _ _ := ⟨F3, b3, PySem.W.mg_of X G a3⟩
  have F4 := zaL (st := zak) l4 c4 k4
  have b4 := F4.binds (ps := ["claims", "turn"]) fun _ _ _ _ _ _ us hl => by obtain ⟨_, _, rfl⟩ := ul2 hl; rfl
  have zd1 : DfnC K mg "claims_in_order" zak ["claims", "turn"] _ _ _ := ⟨zlt (st := zak) l4 c4, k4, b4, PySem.W.mg_of X G a4⟩
  have F5 := zaL (st := zaH) l5 c5 k5
  have b5 := F5.binds (ps := ["claims", "turn"]) fun _ _ _ _ _ _ us hl => by obtain ⟨_, _, rfl⟩ := ul2 hl; rfl
  have zdL : Dfn K mg "numbers_in_order" zaH ["claims", "turn"] _ _ := ⟨F5, b5, PySem.W.mg_of X G a5⟩
  have F6 := zaL (st := zaQ) l6 c6 k6
  have b6 := F6.binds (ps := ["chores", "hands", "turn"]) fun _ _ _ _ _ _ us hl => by obtain ⟨_, _, _, rfl⟩ := ul3 hl; rfl
  have zef : Dfn K mg "numbers_worked" zaQ ["chores", "hands", "turn"] _ _ := ⟨F6, b6, PySem.W.mg_of X G a6⟩
  have F7 := zaL (st := zaT) l7 c7 k7
  have b7 := F7.binds (ps := ["chores", "numbers"]) fun _ _ _ _ _ _ us hl => by obtain ⟨_, _, rfl⟩ := ul2 hl; rfl
  have zeO : Dfn K mg "chores_behind" zaT ["chores", "numbers"] _ _ := ⟨F7, b7, PySem.W.mg_of X G a7⟩
  have F8 := zaL (st := zby) l8 c8 k8
  have b8 := F8.binds (ps := ["chores", "hands", "turn"]) fun _ _ _ _ _ _ us hl => by obtain ⟨_, _, _, rfl⟩ := ul3 hl; rfl
  have zgY : Dfn K mg "turn_done" zby ["chores", "hands", "turn"] _ _ := ⟨F8, b8, PySem.W.mg_of X G a8⟩
  have F9 := zaL (st := za0) l9 c9 k9
  have b9 := F9.binds (ps := ["chores", "real"]) fun _ _ _ _ _ _ us hl => by obtain ⟨_, _, rfl⟩ := ul2 hl; rfl
  have zeY : Dfn K mg "chores_taken" za0 ["chores", "real"] _ _ := ⟨F9, b9, PySem.W.mg_of X G a9⟩
  have F10 := zlx (st := zcK) l10 c10 k10 t10 u10
  have b10 := F10.binds (ps := ["chores", "hands", "begin", "real"]) fun _ _ _ _ _ _ _ us hl => by obtain ⟨_, _, _, _, rfl⟩ := ul4 hl; exact ⟨_, rfl, rfl⟩
  have bd10 := F10.bindsD (ps := ["chores", "hands", "begin", "real"]) fun _ _ _ _ _ _ _ us hl => by obtain ⟨_, _, _, rfl⟩ := ul3 (show us.length = 3 by rw [List.length_append] at hl; exact Nat.succ.inj hl); exact ⟨_, rfl, rfl⟩
  have zkq : DfnD K mg "run_of" zcK ["chores", "hands", "begin", "real"] _ _ := ⟨F10, b10, bd10, PySem.W.mg_of X G a10⟩
  have F11 := zaL (st := za5) l11 c11 k11
  have b11 := F11.binds (ps := ["thing", "numbers"]) fun _ _ _ _ _ _ us hl => by obtain ⟨_, _, rfl⟩ := ul2 hl; rfl
  have zfz : Dfn K mg "are_numbers" za5 ["thing", "numbers"] _ _ := ⟨F11, b11, PySem.W.mg_of X G a11⟩
  have F12 := zaL (st := zbz) l12 c12 k12
  have b12 := F12.binds (ps := ["thing", "turn", "numbers"]) fun _ _ _ _ _ _ us hl => by obtain ⟨_, _, _, rfl⟩ := ul3 hl; rfl
  have zgZ : Dfn K mg "is_row_of" zbz ["thing", "turn", "numbers"] _ _ := ⟨F12, b12, PySem.W.mg_of X G a12⟩
  have F13 := zaL (st := zbO) l13 c13 k13
  have b13 := F13.binds (ps := ["chores", "hands", "begin", "rows"]) fun _ _ _ _ _ _ us hl => by obtain ⟨_, _, _, _, rfl⟩ := ul4 hl; rfl
  have zh9 : Dfn K mg "walk_run" zbO ["chores", "hands", "begin", "rows"] _ _ := ⟨F13, b13, PySem.W.mg_of X G a13⟩
  have F14 := zaL (st := za6) l14 c14 k14
  have b14 := F14.binds (ps := ["chores", "number"]) fun _ _ _ _ _ _ us hl => by obtain ⟨_, _, rfl⟩ := ul2 hl; rfl
  have zfA : Dfn K mg "is_piece_of" za6 ["chores", "number"] _ _ := ⟨F14, b14, PySem.W.mg_of X G a14⟩
  have F15 := zaL (st := za7) l15 c15 k15
  have b15 := F15.binds (ps := ["chores", "number"]) fun _ _ _ _ _ _ us hl => by obtain ⟨_, _, rfl⟩ := ul2 hl; rfl
  have zfB : Dfn K mg "check_piece" za7 ["chores", "number"] _ _ := ⟨F15, b15, PySem.W.mg_of X G a15⟩
  have F16 := zaL (st := zbh) l16 c16 k16
  have b16 := F16.binds (ps := ["rows"]) fun _ _ _ _ _ _ us hl => by obtain ⟨_, rfl⟩ := ul1 hl; rfl
  have zgp : Dfn K mg "last_turns" zbh ["rows"] _ _ := ⟨F16, b16, PySem.W.mg_of X G a16⟩
  have F17 := zaL (st := za8) l17 c17 k17
  have b17 := F17.binds (ps := ["chores", "hands", "begin", "number"]) fun _ _ _ _ _ _ us hl => by obtain ⟨_, _, _, _, rfl⟩ := ul4 hl; rfl
  have zfC : Dfn K mg "witness_run" za8 ["chores", "hands", "begin", "number"] _ _ := ⟨F17, b17, PySem.W.mg_of X G a17⟩
  have F18 := zaL (st := za1) l18 c18 k18
  have b18 := F18.binds (ps := ["chores", "hands", "begin", "number", "turn", "rows"]) fun _ _ _ _ _ _ us hl => by obtain ⟨_, _, _, _, _, _, rfl⟩ := ul6 hl; rfl
  have zeZ : Dfn K mg "shows_latest" za1 ["chores", "hands", "begin", "number", "turn", "rows"] _ _ := ⟨F18, b18, PySem.W.mg_of X G a18⟩
  have F19 := zaL (st := zbP) l19 c19 k19
  have b19 := F19.binds (ps := ["_law_script", "_law_k"]) fun _ _ _ _ _ _ us hl => by obtain ⟨_, _, rfl⟩ := ul2 hl; rfl
  have zia : Dfn K mg "_law_cell" zbP ["_law_script", "_law_k"] _ _ := ⟨F19, b19, PySem.W.mg_of X G a19⟩
  have F20 := zaL (st := zck) l20 c20 k20
  have b20 := F20.binds (ps := ["_law_cell_here", "_law_k"]) fun _ _ _ _ _ _ us hl => by obtain ⟨_, _, rfl⟩ := ul2 hl; rfl
  have zjz : Dfn K mg "_law_mix" zck ["_law_cell_here", "_law_k"] _ _ := ⟨F20, b20, PySem.W.mg_of X G a20⟩
  have F21 := zaL (st := zbQ) l21 c21 k21
  have b21 := F21.binds (ps := ["_law_cell_here", "_law_k", "_law_many"]) fun _ _ _ _ _ _ us hl => by obtain ⟨_, _, _, rfl⟩ := ul3 hl; rfl
  have zib : Dfn K mg "_law_draw" zbQ ["_law_cell_here", "_law_k", "_law_many"] _ _ := ⟨F21, b21, PySem.W.mg_of X G a21⟩
  have F22 := zaL (st := zbA) l22 c22 k22
  have b22 := F22.binds (ps := ["_law_found"]) fun _ _ _ _ _ _ us hl => by obtain ⟨_, rfl⟩ := ul1 hl; rfl
  have zg0 : Dfn K mg "_law_whole" zbA ["_law_found"] _ _ := ⟨F22, b22, PySem.W.mg_of X G a22⟩
  have F23 := zaL (st := zbi) l23 c23 k23
  have b23 := F23.binds (ps := ["_law_cell_here", "_law_k"]) fun _ _ _ _ _ _ us hl => by obtain ⟨_, _, rfl⟩ := ul2 hl; rfl
  have zgq : Dfn K mg "_law_weight" zbi ["_law_cell_here", "_law_k"] _ _ := ⟨F23, b23, PySem.W.mg_of X G a23⟩
  have F24 := zaL (st := zbR) l24 c24 k24
  have b24 := F24.binds (ps := ["_law_claim", "_law_turn_here"]) fun _ _ _ _ _ _ us hl => by obtain ⟨_, _, rfl⟩ := ul2 hl; rfl
  have zic : Dfn K mg "_law_heft" zbR ["_law_claim", "_law_turn_here"] _ _ := ⟨F24, b24, PySem.W.mg_of X G a24⟩
  have F25 := zaL (st := zbB) l25 c25 k25
  have b25 := F25.binds (ps := ["_law_claims", "_law_turn_here"]) fun _ _ _ _ _ _ us hl => by obtain ⟨_, _, rfl⟩ := ul2 hl; rfl
  have zg1 : Dfn K mg "_law_order" zbB ["_law_claims", "_law_turn_here"] _ _ := ⟨F25, b25, PySem.W.mg_of X G a25⟩
  have F26 := zaL (st := zbS) l26 c26 k26
  have b26 := F26.binds (ps := ["_law_rows", "_law_hands", "_law_turn_here"]) fun _ _ _ _ _ _ us hl => by obtain ⟨_, _, _, rfl⟩ := ul3 hl; rfl
  have zid : Dfn K mg "_law_turn" zbS ["_law_rows", "_law_hands", "_law_turn_here"] _ _ := ⟨F26, b26, PySem.W.mg_of X G a26⟩
  have F27 := zaL (st := zcl) l27 c27 k27
  have b27 := F27.binds (ps := ["_law_chores_here", "_law_hands", "_law_begin"]) fun _ _ _ _ _ _ us hl => by obtain ⟨_, _, _, rfl⟩ := ul3 hl; rfl
  have zjA : Dfn K mg "_law_run" zcl ["_law_chores_here", "_law_hands", "_law_begin"] _ _ := ⟨F27, b27, PySem.W.mg_of X G a27⟩
  have F28 := zaL (st := zbj) l28 c28 k28
  have b28 := F28.binds (ps := ["_law_cell_here", "_law_many", "_law_begin"]) fun _ _ _ _ _ _ us hl => by obtain ⟨_, _, _, rfl⟩ := ul3 hl; rfl
  have zgr : Dfn K mg "_law_chores" zbj ["_law_cell_here", "_law_many", "_law_begin"] _ _ := ⟨F28, b28, PySem.W.mg_of X G a28⟩
  have F29 := zaL (st := zbT) l29 c29 k29
  have b29 := F29.binds (ps := ["_law_cell_here", "_law_most"]) fun _ _ _ _ _ _ us hl => by obtain ⟨_, _, rfl⟩ := ul2 hl; rfl
  have zie : Dfn K mg "_law_case" zbT ["_law_cell_here", "_law_most"] _ _ := ⟨F29, b29, PySem.W.mg_of X G a29⟩
  have F30 := zaL (st := zbU) l30 c30 k30
  have b30 := F30.binds (ps := ["_law_rows", "_law_full", "_law_cell_here"]) fun _ _ _ _ _ _ us hl => by obtain ⟨_, _, _, rfl⟩ := ul3 hl; rfl
  have zif : Dfn K mg "_law_bent" zbU ["_law_rows", "_law_full", "_law_cell_here"] _ _ := ⟨F30, b30, PySem.W.mg_of X G a30⟩
  have F31 := zaL (st := zbC) l31 c31 k31
  have b31 := F31.binds (ps := ["_law_chores_here", "_law_hands", "_law_begin", "_law_rows"]) fun _ _ _ _ _ _ us hl => by obtain ⟨_, _, _, _, rfl⟩ := ul4 hl; rfl
  have zg2 : Dfn K mg "_law_walks" zbC ["_law_chores_here", "_law_hands", "_law_begin", "_law_rows"] _ _ := ⟨F31, b31, PySem.W.mg_of X G a31⟩
  have F32 := zaL (st := zcm) l32 c32 k32
  have b32 := F32.binds (ps := ["_law_chores_here", "_law_hands", "_law_begin", "_law_number", "_law_turn_here", "_law_rows"]) fun _ _ _ _ _ _ us hl => by obtain ⟨_, _, _, _, _, _, rfl⟩ := ul6 hl; rfl
  have zjB : Dfn K mg "_law_due" zcm ["_law_chores_here", "_law_hands", "_law_begin", "_law_number", "_law_turn_here", "_law_rows"] _ _ := ⟨F32, b32, PySem.W.mg_of X G a32⟩
  have F33 := zaL (st := zbD) l33 c33 k33
  have b33 := F33.binds (ps := ["_law_chores_here", "_law_hands", "_law_begin", "_law_number", "_law_turn_here", "_law_rows"]) fun _ _ _ _ _ _ us hl => by obtain ⟨_, _, _, _, _, _, rfl⟩ := ul6 hl; rfl
  have zg3 : Dfn K mg "_law_asked" zbD ["_law_chores_here", "_law_hands", "_law_begin", "_law_number", "_law_turn_here", "_law_rows"] _ _ := ⟨F33, b33, PySem.W.mg_of X G a33⟩
  have F34 := zaL (st := zbE) l34 c34 k34
  have b34 := F34.binds (ps := ["_law_chores_here", "_law_hands", "_law_begin", "_law_number", "_law_cell_here"]) fun _ _ _ _ _ _ us hl => by obtain ⟨_, _, _, _, _, rfl⟩ := ul5 hl; rfl
  have zg4 : Dfn K mg "_law_right" zbE ["_law_chores_here", "_law_hands", "_law_begin", "_law_number", "_law_cell_here"] _ _ := ⟨F34, b34, PySem.W.mg_of X G a34⟩
  have F35 := zaL (st := zeQ) l35 c35 k35
  have b35 := F35.binds (ps := ["_law_script"]) fun _ _ _ _ _ _ us hl => by obtain ⟨_, rfl⟩ := ul1 hl; rfl
  have znj : Dfn K mg "law" zeQ ["_law_script"] _ _ := ⟨F35, b35, PySem.W.mg_of X G a35⟩
  refine ⟨PySem.W.fnOf "law" "law" (zan zeQ) (zaj zeQ) (zad zeQ) .none kV35 dc35 pm35 an35 cd35 ct35, PySem.W.fnOf "claims_in_order" "claims_in_order" (zan zak) (zaj zak) (zad zak) .none kV4 dc4 pm4 an4 cd4 ct4, f4, ⟨oc4, od4, .func (PySem.W.fnOf "claims_in_order" "claims_in_order" (zan zak) (zaj zak) (zad zak) .none kV4 dc4 pm4 an4 cd4 ct4), sl4⟩, fun s v => .of_eq rfl, PySem.W.mg_of X G a4, l4, rfl, fun tT base _ _ SI => ?_⟩
  have X_NoPiece : XCal l.prog w K mg base "NoPiece" c_NoPiece "number" := ⟨⟨fi_NoPiece, _, ["self", "number"], ⟨xx_NoPiece, z2_NoPiece, x7_NoPiece, fun f e => by cases e; exact y5_NoPiece⟩, y6_NoPiece, zjW (zaL (st := zce) y2_NoPiece y3_NoPiece y4_NoPiece) zgH rfl rfl rfl rfl rfl (fun _ => rfl), (zaL (st := zce) y2_NoPiece y3_NoPiece y4_NoPiece).binds (ps := ["self", "number"]) fun _ _ _ _ _ _ us hl => by obtain ⟨_, _, rfl⟩ := ul2 hl; rfl, PySem.W.mg_of X G xa_NoPiece⟩⟩
  have zdn := zgM (P := l.prog) (w := w) (base := base) zia T
  have zaX := zh4 (P := l.prog) (w := w) (base := base) zjz T
  have zam := zgO (P := l.prog) (w := w) (base := base) zib T zaX
  have zcu := zfs (P := l.prog) (w := w) (base := base) zgq T zaX zam
  have zdc := zfu (P := l.prog) (w := w) (base := base) zgr T zaX zam zcu
  have zd0 := zgS (P := l.prog) (w := w) (base := base) zie T zam zdc
  have zaV := zgK (P := l.prog) (w := w) (base := base) zh8 T
  have zaI := zed (P := l.prog) (w := w) (base := base) zeO T
  have zb8 := zdT (P := l.prog) (w := w) (base := base) zee T
  have zcq := zec (P := l.prog) (w := w) (base := base) zeN T zb8
  have zdt := zgc (P := l.prog) (w := w) (base := base) zgX T
  have zbX := zdJ (P := l.prog) (w := w) (base := base) (tT := tT) zd1 SI T zcq zdt
  have zbJ := zdv (P := l.prog) (w := w) (base := base) zdL T zbX
  have zb9 := zdU (P := l.prog) (w := w) (base := base) zef T zbJ
  have zbY := zgd (P := l.prog) (w := w) (base := base) zgY T zb9 zaI
  have zcR := zeX (P := l.prog) (w := w) (base := base) zfz T zaV
  have zdx := zgi (P := l.prog) (w := w) (base := base) zgZ T zaV zcR
  have zdY := zgU (P := l.prog) (w := w) (base := base) zh9 T zaI zbY zdx
  have zba := zeS (P := l.prog) (w := w) (base := base) zfA T zaV
  have zbe := zeK (P := l.prog) (w := w) (base := base) zeZ T zaV zdY zba
  have zbl := zgl (P := l.prog) (w := w) (base := base) zg0 T
  have zdX := zgP (P := l.prog) (w := w) (base := base) zic T
  have zdw := zgf (P := l.prog) (w := w) (base := base) zg1 T zdX
  have zcg := zgR (P := l.prog) (w := w) (base := base) zid T zdw
  have zdy := zgm (P := l.prog) (w := w) (base := base) zg2 T zbl zcg
  have zeL := zh6 (P := l.prog) (w := w) (base := base) zjB T zbl zdy
  have zb1 := zgn (P := l.prog) (w := w) (base := base) zg3 T zbe zeL
  have zcx := zeJ (P := l.prog) (w := w) (base := base) zeY T
  have zfv := zjs (P := l.prog) (w := w) (base := base) zkq T zaI zbY zcx
  have zcP := zeU (P := l.prog) (w := w) (base := base) zfB T zba X_NoPiece
  have zdd := zft (P := l.prog) (w := w) (base := base) zgp T
  have zcS := zeV (P := l.prog) (w := w) (base := base) zfC T zfv zcP zdd
  have zeM := zh5 (P := l.prog) (w := w) (base := base) zjA T zcg
  have zdZ := zgW (P := l.prog) (w := w) (base := base) zif T zam
  have zdz := zgo (P := l.prog) (w := w) (base := base) zg4 T zcS zbe zam zeM zdZ zb1
  exact zmL znj T zdn zaX zd0 zb1 zdz
theorem walk {l : PySem.W.OpenLaw} {q : Program} {loose : List Str} {XP : (Str → Option Value) → Heap → Prop} {YP : World → Heap → Prop} {d : DefRec} {K : Params → PySem.W.Frag} (hn : l.most = some 63) (hdf : d.params.defaults = [])
    (hY : ∀ (w : World) (h : Heap), YP w h → (K w.params).In h) (hK : ∀ p, zez (K p) = true) (hrec : ∃ dr, (PyProof.Rows.recsOf q).find? (fun e => e.name == ("claims_in_order" : Str)) = some dr)
    (F : ∀ (w : World) (mg : Str → Option Value) (fa : Addr) (h : Heap), (K w.params).In h → h.Ns mainGlobals mg → mg d.name = some (.ref fa) →
      ∃ (fd fg : FuncData) (ag : Addr) (og : Obj), (∀ (s : Shared) (u : Value), BindsTo s fd ⟨[u], []⟩ [("_law_script", u)]) ∧ mg "claims_in_order" = some (.ref ag) ∧ (K w.params).lookup ag = some og ∧ og.data = .func fg ∧
        ∀ (tT : Addr) (base : Heap), (K w.params).In base → base.Ns mainGlobals mg → Site (K w.params) mg base fg.code tT → FnOk l.prog w (K w.params) mg base CX0 14 fa fd ["_law_script"] (ziM (K w.params) tT)) :
    PySem.W.WalkO q loose XP YP l.row.toRowW d [] (fun f vs => PySem.call f vs) :=
  L2.walk_ofT (n := 63) (k := 14) (x := "_law_script") (g := "claims_in_order") (lp := zcV) (q := lamQ) (sp := fun K tT => ziM K tT) hn (by decide) hdf ⟨rfl, by decide, by decide, rfl⟩ hY hK hrec F (fun _ _ _ a ns hl hT hS => ⟨a, ns, rfl, hS, hl, hT, fun _ => rfl⟩)
end K63
set_option Elab.async false
set_option linter.all false
set_option maxRecDepth 100000
set_option maxHeartbeats 4000000
theorem PySem.W.Fast.tw12326427640429401379 : True := trivial
theorem PySem.W.Fast.tw5939028238374123527 : True := trivial
theorem PySem.W.Fast.tw16765290691937772648 : True := trivial
theorem PySem.W.Fast.tw7316511411918110537 : True := trivial
theorem PySem.W.Fast.tw4692542998823850063 : True := trivial
theorem PySem.W.Fast.tw2981220816644243058 : True := trivial
theorem PySem.W.Fast.tw3906491192807349590 : True := trivial
theorem PySem.W.Fast.tw3212102852236811866 : True := trivial
theorem PySem.W.Fast.tw16204151854155998875 : True := trivial
theorem PySem.W.Fast.tw15307289401529042077 : True := trivial
open PySem PySem.W PyProof.Rows
set_option maxRecDepth 100000 in
set_option maxHeartbeats 0 in
theorem PySem.Challenge.cw_greywait_k63_whole_what_shows_a_latest_t_holds : PySem.Challenge.rw_greywait_k63_whole_what_shows_a_latest_t.Holds := by
  w_on; o_law; k_head; (case hw => w_witness2)
  k_fill
  refine K63.walk (l := PySem.Challenge.rw_greywait_k63_whole_what_shows_a_latest_t) rfl rfl (fun w h Y => PySem.W.km_in_of Y) (fun _ => by kernel_rfl) ⟨_, rfl⟩ ?F
  case F =>
    intro w mg fa h KX G hmg
    refine' K63.all_mk (l := PySem.Challenge.rw_greywait_k63_whole_what_shows_a_latest_t) (w := w) KX G hmg ?a0 ?l0 ?c0 ?k0 ?a1 ?l1 ?c1 ?k1 ?a2 ?l2 ?c2 ?k2 ?a3 ?l3 ?c3 ?k3 ?a4 ?l4 ?c4 ?k4 ?a5 ?l5 ?c5 ?k5 ?a6 ?l6 ?c6 ?k6 ?a7 ?l7 ?c7 ?k7 ?a8 ?l8 ?c8 ?k8 ?a9 ?l9 ?c9 ?k9 ?a10 ?l10 ?c10 ?k10 ?t10 ?u10 ?a11 ?l11 ?c11 ?k11 ?a12 ?l12 ?c12 ?k12 ?a13 ?l13 ?c13 ?k13 ?a14 ?l14 ?c14 ?k14 ?a15 ?l15 ?c15 ?k15 ?a16 ?l16 ?c16 ?k16 ?a17 ?l17 ?c17 ?k17 ?a18 ?l18 ?c18 ?k18 ?a19 ?l19 ?c19 ?k19 ?a20 ?l20 ?c20 ?k20 ?a21 ?l21 ?c21 ?k21 ?a22 ?l22 ?c22 ?k22 ?a23 ?l23 ?c23 ?k23 ?a24 ?l24 ?c24 ?k24 ?a25 ?l25 ?c25 ?k25 ?a26 ?l26 ?c26 ?k26 ?a27 ?l27 ?c27 ?k27 ?a28 ?l28 ?c28 ?k28 ?a29 ?l29 ?c29 ?k29 ?a30 ?l30 ?c30 ?k30 ?a31 ?l31 ?c31 ?k31 ?a32 ?l32 ?c32 ?k32 ?a33 ?l33 ?c33 ?k33 ?a34 ?l34 ?c34 ?k34 ?a35 ?l35 ?c35 ?k35 ?z_all ?z_any ?z_bool ?z_enumerate ?z_int ?z_isinstance ?z_len ?z_list ?z_max ?z_min ?z_range ?z_sorted ?z_tuple ?z_zip ?zbk ?zaW ?zcn ?zbV ?za9 ?q_NoneType_bool ?q_NoneType_int ?zcf ?zco ?q_NoneType_list ?zcE ?zcL ?zcF ?zbF ?zcp ?q_NoneType_tuple ?zbW ?zb5 ?zcG ?xcg ?xct ?xa_NoPiece ?xd_NoPiece ?xt_NoPiece ?x1_NoPiece ?x2_NoPiece ?x3_NoPiece ?x4_NoPiece ?x5_NoPiece ?x6_NoPiece ?x7_NoPiece ?y1_NoPiece ?y2_NoPiece ?y3_NoPiece ?y4_NoPiece ?y5_NoPiece ?y6_NoPiece ?z1_NoPiece ?z2_NoPiece ?xa_WaitError ?xa_NoEnd ?znd
    (case a0 => k_is)
    (case l0 => k_is)
    (case c0 => k_is)
    (case k0 => k_is)
    (case a1 => k_is)
    (case l1 => k_is)
    (case c1 => k_is)
    (case k1 => k_is)
    (case a2 => k_is)
    (case l2 => k_is)
    (case c2 => k_is)
    (case k2 => k_is)
    (case a3 => k_is)
    (case l3 => k_is)
    (case c3 => k_is)
    (case k3 => k_is)
    (case a4 => k_is)
    (case l4 => k_is)
    (case c4 => k_is)
    (case k4 => k_is)
    (case a5 => k_is)
    (case l5 => k_is)
    (case c5 => k_is)
    (case k5 => k_is)
    (case a6 => k_is)
    (case l6 => k_is)
    (case c6 => k_is)
    (case k6 => k_is)
    (case a7 => k_is)
    (case l7 => k_is)
    (case c7 => k_is)
    (case k7 => k_is)
    (case a8 => k_is)
    (case l8 => k_is)
    (case c8 => k_is)
    (case k8 => k_is)
    (case a9 => k_is)
    (case l9 => k_is)
    (case c9 => k_is)
    (case k9 => k_is)
    (case a10 => k_is)
    (case l10 => k_is)
    (case c10 => k_is)
    (case k10 => k_is)
    (case t10 => k_is)
    (case u10 => rfl)
    (case a11 => k_is)
    (case l11 => k_is)
    (case c11 => k_is)
    (case k11 => k_is)
    (case a12 => k_is)
    (case l12 => k_is)
    (case c12 => k_is)
    (case k12 => k_is)
    (case a13 => k_is)
    (case l13 => k_is)
    (case c13 => k_is)
    (case k13 => k_is)
    (case a14 => k_is)
    (case l14 => k_is)
    (case c14 => k_is)
    (case k14 => k_is)
    (case a15 => k_is)
    (case l15 => k_is)
    (case c15 => k_is)
    (case k15 => k_is)
    (case a16 => k_is)
    (case l16 => k_is)
    (case c16 => k_is)
    (case k16 => k_is)
    (case a17 => k_is)
    (case l17 => k_is)
    (case c17 => k_is)
    (case k17 => k_is)
    (case a18 => k_is)
    (case l18 => k_is)
    (case c18 => k_is)
    (case k18 => k_is)
    (case a19 => k_is)
    (case l19 => k_is)
    (case c19 => k_is)
    (case k19 => k_is)
    (case a20 => k_is)
    (case l20 => k_is)
    (case c20 => k_is)
    (case k20 => k_is)
    (case a21 => k_is)
    (case l21 => k_is)
    (case c21 => k_is)
    (case k21 => k_is)
    (case a22 => k_is)
    (case l22 => k_is)
    (case c22 => k_is)
    (case k22 => k_is)
    (case a23 => k_is)
    (case l23 => k_is)
    (case c23 => k_is)
    (case k23 => k_is)
    (case a24 => k_is)
    (case l24 => k_is)
    (case c24 => k_is)
    (case k24 => k_is)
    (case a25 => k_is)
    (case l25 => k_is)
    (case c25 => k_is)
    (case k25 => k_is)
    (case a26 => k_is)
    (case l26 => k_is)
    (case c26 => k_is)
    (case k26 => k_is)
    (case a27 => k_is)
    (case l27 => k_is)
    (case c27 => k_is)
    (case k27 => k_is)
    (case a28 => k_is)
    (case l28 => k_is)
    (case c28 => k_is)
    (case k28 => k_is)
    (case a29 => k_is)
    (case l29 => k_is)
    (case c29 => k_is)
    (case k29 => k_is)
    (case a30 => k_is)
    (case l30 => k_is)
    (case c30 => k_is)
    (case k30 => k_is)
    (case a31 => k_is)
    (case l31 => k_is)
    (case c31 => k_is)
    (case k31 => k_is)
    (case a32 => k_is)
    (case l32 => k_is)
    (case c32 => k_is)
    (case k32 => k_is)
    (case a33 => k_is)
    (case l33 => k_is)
    (case c33 => k_is)
    (case k33 => k_is)
    (case a34 => k_is)
    (case l34 => k_is)
    (case c34 => k_is)
    (case k34 => k_is)
    (case a35 => k_is)
    (case l35 => k_is)
    (case c35 => k_is)
    (case k35 => k_is)
    (case z_all => k_is)
    (case z_any => k_is)
    (case z_bool => k_is)
    (case z_enumerate => k_is)
    (case z_int => k_is)
    (case z_isinstance => k_is)
    (case z_len => k_is)
    (case z_list => k_is)
    (case z_max => k_is)
    (case z_min => k_is)
    (case z_range => k_is)
    (case z_sorted => k_is)
    (case z_tuple => k_is)
    (case z_zip => k_is)
    (case xcg => k_is)
    (case xct => k_is)
    (case xa_NoPiece => k_is)
    (case xd_NoPiece => k_is)
    (case xt_NoPiece => k_is)
    (case x1_NoPiece => k_is)
    (case x2_NoPiece => k_is)
    (case x3_NoPiece => k_is)
    (case x4_NoPiece => k_is)
    (case x5_NoPiece => k_is)
    (case x6_NoPiece => k_is)
    (case x7_NoPiece => k_is)
    (case y1_NoPiece => k_is)
    (case y2_NoPiece => k_is)
    (case y3_NoPiece => k_is)
    (case y4_NoPiece => k_is)
    (case y5_NoPiece => k_is)
    (case y6_NoPiece => k_is)
    (case z1_NoPiece => rfl)
    (case z2_NoPiece => kernel_rfl)
    (case xa_WaitError => k_is)
    (case xa_NoEnd => k_is)
    (case znd => decide)
    (case zbk => kit_is)
    (case zaW => kit_is)
    (case zcn => kit_is)
    (case zbV => kit_is)
    (case za9 => kit_is)
    (case q_NoneType_bool => kit_is)
    (case q_NoneType_int => kit_is)
    (case zcf => kit_is)
    (case zco => kit_is)
    (case q_NoneType_list => kit_is)
    (case zcE => kit_is)
    (case zcL => kit_is)
    (case zcF => kit_is)
    (case zbF => kit_is)
    (case zcp => kit_is)
    (case q_NoneType_tuple => kit_is)
    (case zbW => kit_is)
    (case zb5 => kit_is)
    (case zcG => kit_is)
