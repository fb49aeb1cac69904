import PyProof.Rows.All
import Wide.All
import OpenK.AllK
import Wide.FinOn
import PyProof.EqAt
import PyProof.EqKinds
import PyProof.TupleCall
import KE.KIntText
import PyProof.Rows.ReprOcc
import PyProof.ExcInit
import PyProof.ExcClass2
import PyProof.InstStoreFacts
import PyProof.NsDelKeeps
import KE.KSortTup
import KE.KLam
import KE.KMinBuiltin
import PyProof.DictValues
import PyProof.ReprRoads
import KE.KDictList
import PyProof.AttrMissHeap
import KE.KDictOf
import PyProof.EnumMake
import PyProof.ZipIter
import PyProof.SumWalk
import PyProof.DictWalks
import PyProof.ListNew
import KE.KRevIter
import KE.KRevSl
import PyProof.Rows.SetFrom
import KE.KNest
import KE.KSort
import KE.KSortKey
import PySem.Challenge.RW_greywait_k71_whole_less_is_never_later
set_option Elab.async false
set_option linter.all false
set_option maxRecDepth 100000
namespace L2
open PySem PySem.Spec PyProof.Rows
abbrev Key:=Sum Int Str
def zga:Key→Value→Bool
 | .inl k,v=>Value.isInt k v
 | .inr x,v=>Value.isStrOf x v
def keyH (w:World):Key→Int
 | .inl k=>hashInt k
 | .inr x=>hashStr w x
theorem zaX:∀ {k:Key} {v:Value},zga k v=true→(∃i t,k=Sum.inl i∧v=Value.int i t)∨(∃x t,k=Sum.inr x∧v=Value.str x t)
 | .inl i,v,h=>by
   obtain ⟨t,e⟩:=Value.isInt_shape (k:=i) (v:=v) h
   exact .inl ⟨i,t,rfl,e⟩
 | .inr x,v,h=>by
   obtain ⟨t,e⟩:=Value.isStrOf_shape (x:=x) (v:=v) h
   exact .inr ⟨x,t,rfl,e⟩
theorem zhU (i:Int) (t:Tok):zga (.inl i) (.int i t)=true:=by simp [zga,Value.isInt]
theorem zhV (x:Str) (t:Tok):zga (.inr x) (.str x t)=true:=by simp [zga,Value.isStrOf]
theorem zlX (a b:Int):decide ((Sum.inl a:Key)=Sum.inl b)=(a==b):=by
 by_cases e:a=b
 ·subst e;simp
 ·have h:¬(Sum.inl a:Key)=Sum.inl b:=fun q=>e (Sum.inl.inj q)
  rw [decide_eq_false h]
  exact (beq_eq_false_iff_ne.mpr e).symm
theorem zlY (a b:Str):decide ((Sum.inr a:Key)=Sum.inr b)=decide (a=b):=by
 by_cases e:a=b
 ·subst e;simp
 ·have h:¬(Sum.inr a:Key)=Sum.inr b:=fun q=>e (Sum.inr.inj q)
  rw [decide_eq_false h,decide_eq_false e]
theorem zlZ (a:Int) (b:Str):decide ((Sum.inl a:Key)=Sum.inr b)=false:=decide_eq_false (fun q=>nomatch q)
theorem zl0 (a:Str) (b:Int):decide ((Sum.inr a:Key)=Sum.inl b)=false:=decide_eq_false (fun q=>nomatch q)
def zaI (prog:Program) (w:World):PySem.KeyKind prog w Key where
 is:=zga
 hash:=keyH w
 inj:=fun v a b ha hb=>by
  rcases zaX ha with ⟨i,t,rfl,rfl⟩ | ⟨x,t,rfl,rfl⟩
  ·rcases zaX hb with ⟨j,u,rfl,e⟩ | ⟨y,u,rfl,e⟩
   ·injection e with e1 _;rw [e1]
   ·exact nomatch e
  ·rcases zaX hb with ⟨j,u,rfl,e⟩ | ⟨y,u,rfl,e⟩
   ·exact nomatch e
   ·injection e with e1 _;rw [e1]
 byValue:=fun k v h=>by
  rcases zaX h with ⟨i,t,rfl,rfl⟩ | ⟨x,t,rfl,rfl⟩<;>rfl
 pyHash:=fun hv h=>by
  rcases zaX hv with ⟨i,t,rfl,rfl⟩ | ⟨x,t,rfl,rfl⟩
  ·exact wpAny_pyHash_int h
  ·exact wpAny_pyHash_str h
 eqBool:=fun hu hv h=>by
  rcases zaX hu with ⟨i,t,rfl,rfl⟩ | ⟨x,t,rfl,rfl⟩
  ·rcases zaX hv with ⟨j,u,rfl,rfl⟩ | ⟨y,u,rfl,rfl⟩
   ·rw [zlX] at h;exact wpAny_eqBool_int h
   ·rw [zlZ] at h;exact SeqAt.EqAt.int_str i t y u _ _ _ _ h
  ·rcases zaX hv with ⟨j,u,rfl,rfl⟩ | ⟨y,u,rfl,rfl⟩
   ·rw [zl0] at h;exact SeqAt.EqAt.str_int x t j u _ _ _ _ h
   ·rw [zlY] at h;exact wpAny_eqBool_str h
 «strs» := fun k x t v h=>by
  rcases zaX h with ⟨i,u,rfl,e⟩ | ⟨y,u,rfl,e⟩
  ·exact nomatch e
  ·injection e with e1 _
   subst e1
   cases v<;>rfl
theorem zez (prog:Program) (w:World) (k:Key) (v:Value):(zaI prog w).is k v=zga k v:=rfl
theorem zgb (prog:Program) (w:World) (i:Int) (t:Tok):(zaI prog w).is (.inl i) (.int i t)=true:=zhU i t
theorem zgc (prog:Program) (w:World) (x:Str) (t:Tok):(zaI prog w).is (.inr x) (.str x t)=true:=zhV x t
end L2
namespace L2
open PySem PySem.Spec PyProof.Rows
inductive V where
 | non | bl (b:Bool) | int (i:Int) | str (x:Str) | byt (b:Array UInt8) | flt (b:UInt64) | ref (a:Addr) | ty (n:String)
 deriving DecidableEq
def RelV:V→Value→Prop
 | .non,u=>u=Value.none
 | .bl b,u=>u=Value.bool b
 | .int i,u=>∃t,u=Value.int i t
 | .str x,u=>∃t,u=Value.str x t
 | .byt b,u=>∃t,u=Value.bytes b t
 | .flt b,u=>∃t,u=Value.float b t
 | .ref a,u=>u=Value.ref a
 | .ty n,u=>u=Value.type n
abbrev Vals:List V→List Value→Prop:=Paired RelV
theorem Vals.length {xs:List V} {us:List Value} (r:Vals xs us):xs.length=us.length:=Paired.length r
theorem Vals.get:∀ {xs:List V} {us:List Value} {i:Nat} {x:V},Vals xs us→xs[i]?=some x→∃u,us[i]?=some u∧RelV x u
 | _,_,_,_,.nil,e=>by simp at e
 | _,_,0,_,.cons r _,e=>by simp at e;subst e;exact ⟨_,rfl,r⟩
 | _,_,i+1,x,.cons _ t,e=>by
   obtain ⟨u,h1,h2⟩:=Vals.get (i:=i) (x:=x) t (by simpa using e)
   exact ⟨u,by simpa using h1,h2⟩
theorem Vals.append:∀ {xs ys:List V} {us ws:List Value},Vals xs us→Vals ys ws→Vals (xs++ys) (us++ws)
 | _,_,_,_,.nil,s=>s
 | _,_,_,_,.cons r t,s=>.cons r (Vals.append t s)
theorem Vals.take:∀ {xs:List V} {us:List Value} (n:Nat),Vals xs us→Vals (xs.take n) (us.take n)
 | _,_,0,_=>.nil
 | _,_,_+1,.nil=>.nil
 | _,_,n+1,.cons r t=>.cons r (Vals.take n t)
theorem Vals.drop:∀ {xs:List V} {us:List Value} (n:Nat),Vals xs us→Vals (xs.drop n) (us.drop n)
 | _,_,0,r=>r
 | _,_,_+1,.nil=>.nil
 | _,_,n+1,.cons _ t=>Vals.drop n t
def RelO:Option V→Option Value→Prop
 | some v,some u=>RelV v u
 | none,none=>True
 | _,_=>False
def KV {κ:Type}:List (κ × V)→List (κ × Value)→Prop:=Paired fun (p : κ × V) (q : κ × Value)=>p.1=q.1∧RelV p.2 q.2
def kV:Key→V
 | .inl i=>.int i
 | .inr x=>.str x
inductive HO where
 | lst (xs:List V)
 | tup (xs:List V)
 | dK (kvs:List (Key × V)) | dT (kvs:List (List Key × V))
 | set (S:Int→Bool) (n:Nat)
 | ins (C dx:Addr) (fs:List (Str × V))
 | own (x:Addr)
 | xd (fs:List (Str × V))
 | met (f x:Addr)
 | rng (lo hi:Int)
 | frz (o:Obj) (u:HO)
 | tbl (lp:Pos) (lq:Str)
 | ext (φ:Heap→Prop)
abbrev Hp:=Addr→Option HO
def upd (H:Hp) (a:Addr) (o:HO):Hp:=fun b=>if b=a then some o else H b
theorem zar {H:Hp} {a:Addr} {o:HO}:upd H a o a=some o:=by unfold upd;rw [if_pos rfl]
theorem zap {H:Hp} {a b:Addr} {o:HO} (h:b≠a):upd H a o b=H b:=by unfold upd;rw [if_neg h]
theorem zjo {H:Hp} {a b:Addr} {o u:HO} (h:H a=some o) (h':H b=some u) (d:o≠u):a≠b:=by
 intro e;subst e;rw [h] at h';exact d (Option.some.inj h')
theorem zbi {H:Hp} {a b:Addr} {o:HO} (h:H a=some o) (h':H b=none):a≠b:=by
 intro e;subst e;rw [h] at h';cases h'
section
variable (P:Program) (w:World)
def zbJ (H:Hp) (h:Heap) (a:Addr):HO→Prop
 | .lst xs=>xs.length≤sizeLine∧∃(its:List Value) (n:Nat),Vals xs its∧h.get? a=some { cls:=.type "list",data:=.seq its.toArray n }
 | .tup xs=>xs.length≤sizeLine∧∃its:List Value,Vals xs its∧IsTup h a its.toArray
 | .dK kvs=>kvs.length≤sizeLine∧(a==sysModules)=false∧∃vs,KV kvs vs∧h.DictOf (zaI P w) a vs
 | .dT kvs=>kvs.length≤sizeLine∧(a==sysModules)=false∧∃xs:List (List Key × Addr × Value),
    Paired (fun (p:List Key × V) (q:List Key × Addr × Value)=>p.1=q.1∧H q.2.1=some (.tup (p.1.map kV))∧RelV p.2 q.2.2) kvs xs∧
    ∃o es ep,h.get? a=some o∧o.ExactDict∧o.data=.dict es ep∧es.toList=xs.map (entryOfKey (tupleKind (zaI P w)))∧(xs.map (·.1)).Nodup
 | .set S n=>h.SetOf (intKind P w) a S n
 | .ins C dx fs=>H dx=some (.own a)∧fs.length≤1000∧dx≠a∧h.get? a=some (PySem.W.instObj C dx)∧
    ∃mA,h.Ns1 dx mA∧(∀f,RelO (fs.lookup f) (mA f))∧PySem.Within mA (fs.map (·.1))
 | .own _=>∃o,h.get? a=some o
 | .xd fs=>∃mA,h.Ns1 a mA∧∀f,RelO (fs.lookup f) (mA f)
 | .rng lo hi=>∃t u v,h.get? a=some { cls:=.type "range",data:=.fields #[.int lo t,.int hi u,.int 1 v] }
 | .frz o u=>h.get? a=some o∧zbJ H h a u
 | .tbl lp lq=>∃vs:Array Value,h.get? a=some { cls:=.none,data:=.fields vs }∧TriplesOk vs.toList∧(codeAmong lp vs.toList=none∨∃c oc us t,codeAmong lp vs.toList=some (.ref c)∧H c=some (.frz oc (.own c))∧oc.data=.fields us∧us[1]?=some (.str lq t))
 | .met f x=>h.get? a=some (PySem.W.methodObj (.ref f) (.ref x))
 | .ext φ => φ h∧(∃o,h.get? a=some o)∧∀h1 h2:Heap,φ h1→(∀o,h1.get? a=some o→h2.get? a=some o) → φ h2
def HOk (H:Hp) (h:Heap):Prop:=∀a o,H a=some o→zbJ P w H h a o
end
section
variable {P:Program} {w:World} {H H':Hp} {h h':Heap} {a:Addr} {o:HO}
theorem zbJ.lt (x:zbJ P w H h a o):a<h.objs.size:=by
 cases o with
 | lst xs=>obtain ⟨_,_,_,_,e⟩:=x;exact Heap.lt_size e
 | tup xs=>obtain ⟨_,_,_,p⟩:=x;exact p.lt
 | dK kvs=>obtain ⟨_,_,_,_,o,_,_,e,_⟩:=x;exact Heap.lt_size e
 | dT kvs=>obtain ⟨_,_,_,_,o,_,_,e,_⟩:=x;exact Heap.lt_size e
 | set S n=>obtain ⟨o,_,_,_,e,_⟩:=x;exact Heap.lt_size e
 | ins C dx fs=>obtain ⟨_,_,_,e,_⟩:=x;exact Heap.lt_size e
 | own y=>obtain ⟨_,e⟩:=x;exact Heap.lt_size e
 | xd fs=>obtain ⟨_,⟨_,_,_,e,_⟩,_⟩:=x;exact Heap.lt_size e
 | rng lo hi=>obtain ⟨_,_,_,e⟩:=x;exact Heap.lt_size e
 | frz ob u=>obtain ⟨e,_⟩:=x;exact Heap.lt_size e
 | tbl lp lq=>obtain ⟨_,e,_⟩:=x;exact Heap.lt_size e
 | met f y=>exact Heap.lt_size (show h.get? a=some _ from x)
 | ext φ=>obtain ⟨_,⟨_,e⟩,_⟩:=x;exact Heap.lt_size e
theorem Paired.mapP {α β:Type} {F G : α → β→Prop}:∀ {l₁:List α} {l₂:List β},Paired F l₁ l₂→(∀a b,F a b→G a b)→Paired G l₁ l₂
 | _,_,.nil,_=>.nil
 | _,_,.cons r t,f=>.cons (f _ _ r) (Paired.mapP t f)
theorem zbJ.stay (x:zbJ P w H h a o) (k:∀b u,(b=a∨H b=some (.own a))→h.get? b=some u→h'.get? b=some u)
  (ho:∀b,H b=some (.own a)→H' b=some (.own a)) (ht:∀b xs,H b=some (.tup xs)→H' b=some (.tup xs)) (hz:∀b ob u,H b=some (.frz ob u)→H' b=some (.frz ob u)):zbJ P w H' h' a o:=by
 induction o with
 | lst xs=>obtain ⟨z,its,n,r,e⟩:=x;exact ⟨z,its,n,r,k _ _ (.inl rfl) e⟩
 | tup xs=>obtain ⟨z,its,r,ob,e,c⟩:=x;exact ⟨z,its,r,ob,k _ _ (.inl rfl) e,c⟩
 | dK kvs=>obtain ⟨z,y,vs,r,ob,es,ep,e,c⟩:=x;exact ⟨z,y,vs,r,ob,es,ep,k _ _ (.inl rfl) e,c⟩
 | dT kvs=>
   obtain ⟨z,y,xs,r,ob,es,ep,e,c⟩:=x
   exact ⟨z,y,xs,Paired.mapP r fun p q z=>⟨z.1,ht _ _ z.2.1,z.2.2⟩,ob,es,ep,k _ _ (.inl rfl) e,c⟩
 | set S n=>obtain ⟨ob,es,ep,t,e,c⟩:=x;exact ⟨ob,es,ep,t,k _ _ (.inl rfl) e,c⟩
 | ins C dx fs=>
   obtain ⟨d,z,ne,e,mA,⟨od,es,ep,e2,c⟩,r⟩:=x
   exact ⟨ho _ d,z,ne,k _ _ (.inl rfl) e,mA,⟨od,es,ep,k _ _ (.inr d) e2,c⟩,r⟩
 | own y=>obtain ⟨ob,e⟩:=x;exact ⟨ob,k _ _ (.inl rfl) e⟩
 | xd fs=>obtain ⟨mA,⟨od,es,ep,e,c⟩,r⟩:=x;exact ⟨mA,⟨od,es,ep,k _ _ (.inl rfl) e,c⟩,r⟩
 | rng lo hi=>obtain ⟨t,u,v,e⟩:=x;exact ⟨t,u,v,k _ _ (.inl rfl) e⟩
 | frz ob u ih=>obtain ⟨e,q⟩:=x;exact ⟨k _ _ (.inl rfl) e,ih q⟩
 | tbl lp lq=>
   obtain ⟨vs,e,tr,r⟩:=x
   exact ⟨vs,k a _ (.inl rfl) e,tr,r.imp id fun ⟨c,oc,us,t,e1,e2,e3⟩=>⟨c,oc,us,t,e1,hz _ _ _ e2,e3⟩⟩
 | met f y=>
   have e:h.get? a=some (PySem.W.methodObj (.ref f) (.ref y)):=x
   show h'.get? a=some (PySem.W.methodObj (.ref f) (.ref y))
   exact k a _ (.inl rfl) e
 | ext φ=>obtain ⟨p,⟨o,e⟩,st⟩:=x;exact ⟨st _ _ p fun o q=>k _ _ (.inl rfl) q,⟨o,k _ _ (.inl rfl) e⟩,st⟩
theorem HOk.lt (x:HOk P w H h) (e:H a=some o):a<h.objs.size:=(x a o e).lt
theorem HOk.fresh (x:HOk P w H h) (e:h.objs.size≤a):H a=none:=by
 cases q:H a with
 | none=>rfl
 | some u=>exact absurd (Nat.lt_of_lt_of_le (x.lt q) e) (Nat.lt_irrefl _)
theorem HOk.kept (x:HOk P w H h) (k:∀b u,h.get? b=some u→h'.get? b=some u):HOk P w H h':=fun a o e=>
 (x a o e).stay (fun b u _ q=>k b u q) (fun _ q=>q) (fun _ _ q=>q) fun _ _ _ q=>q
theorem HOk.laid (x:HOk P w H h) (k:∀b u,h.get? b=some u→h'.get? b=some u) (hp:h.objs.size≤a) (new:zbJ P w (upd H a o) h' a o):HOk P w (upd H a o) h':=fun b u e=>by
 have hn:=x.fresh hp
 by_cases hb:b=a
 ·subst hb;rw [zar] at e;cases e;exact new
 ·rw [zap hb] at e
  exact (x b u e).stay (fun c v _ q=>k c v q) (fun c q=>by rw [zap (zbi q hn)];exact q) (fun c xs q=>by rw [zap (zbi q hn)];exact q) fun c ob xs q=>by rw [zap (zbi q hn)];exact q
end
def Rd (H:Hp) (a:Addr) (u:HO):Prop:=H a=some u∨∃o,H a=some (.frz o u)
theorem Rd.ok {P:Program} {w:World} {H:Hp} {h:Heap} {a:Addr} {u:HO} (r:Rd H a u) (x:HOk P w H h):zbJ P w H h a u:=by
 rcases r with r | ⟨o,r⟩
 ·exact x a u r
 ·obtain ⟨_,q⟩:=x a _ r
  exact q
def Mut:Option HO→Prop
 | some (.lst _)=>True
 | some (.dK _)=>True
 | some (.dT _)=>True
 | some (.set _ _)=>True
 | some (.ins _ _ _)=>True
 | some (.ext _)=>True
 | _=>False
section
variable {P:Program} {w:World} {H:Hp} {h h':Heap} {x e:Addr} {o':HO}
theorem HOk.write (ok:HOk P w H h) (mu:Mut (H x)) (he:e=x∨H e=some (.own x)) (k:∀b u,b≠e→h.get? b=some u→h'.get? b=some u) (heo:∃u,h'.get? e=some u)
  (new:zbJ P w (upd H x o') h' x o'):HOk P w (upd H x o') h':=fun b u q=>by
 have nown:∀c y,H c=some (.own y)→c≠x:=fun c y r z=>by subst z;rw [r] at mu;exact mu
 have ntup:∀c xs,H c=some (.tup xs)→c≠x:=fun c xs r z=>by subst z;rw [r] at mu;exact mu
 have nfrz:∀c ob xs,H c=some (.frz ob xs)→c≠x:=fun c ob xs r z=>by subst z;rw [r] at mu;exact mu
 by_cases hb:b=x
 ·subst hb;rw [zar] at q;cases q;exact new
 ·rw [zap hb] at q
  by_cases hbe:b=e
  ·have q':H b=some (.own x):=by
    rcases he with z | z
    ·exact absurd (hbe.trans z) hb
    ·rw [hbe];exact z
   rw [q] at q';cases q'
   obtain ⟨v,hv⟩:=heo
   exact ⟨v,by rw [hbe];exact hv⟩
  ·refine (ok b u q).stay (fun c v hc r=>k c v ?_ r) (fun c r=>by rw [zap (nown c b r)];exact r) (fun c xs r=>by rw [zap (ntup c xs r)];exact r) fun c ob xs r=>by rw [zap (nfrz c ob xs r)];exact r
   rcases hc with rfl | hc
   ·exact hbe
   ·rintro rfl
    rcases he with z | z
    ·exact nown c b hc z
    ·rw [hc] at z;cases z;exact hb rfl
end
structure Un (fs ex:List Addr) (H H':Hp) (h h':Heap):Prop where
 keep:∀b o,h.get? b=some o→H b=none→b∉fs→b∉ex→h'.get? b=some o
 slot:∀b o,h.get? b=some o→H b=none→b∈fs→b∉ex→∃sl,h'.get? b=some { o with slots:=sl }
 free:∀b o,h.get? b=some o→H b=none→b∉ex→H' b=none
 there:∀b o,h.get? b=some o→b∉ex→∃o',h'.get? b=some o'
 tups:∀b xs,H b=some (.tup xs)→H' b=some (.tup xs)
 frzs:∀b o u,H b=some (.frz o u)→H' b=some (.frz o u)
 tbls:∀b lp lq,H b=some (.tbl lp lq)→H' b=some (.tbl lp lq)
section
variable {fs fs' ex ex':List Addr} {H H1 H2:Hp} {h h1 h2 h':Heap} {a x e:Addr} {o:HO}
theorem Un.any (u:Un fs ex H H1 h h1) {b:Addr} {ob:Obj} (q:h.get? b=some ob) (n:H b=none) (hx:b∉ex):∃sl,h1.get? b=some { ob with slots:=sl }:=by
 by_cases hb:b∈fs
 ·exact u.slot b ob q n hb hx
 ·exact ⟨ob.slots,u.keep b ob q n hb hx⟩
theorem Un.kept (k:∀b u,h.get? b=some u→h'.get? b=some u):Un fs ex H H h h':=
 ⟨fun b ob q _ _ _=>k b ob q,fun b ob q _ _ _=>⟨ob.slots,k b ob q⟩,fun _ _ _ n _=>n,fun b ob q _=>⟨ob,k b ob q⟩,fun _ _ q=>q,fun _ _ _ q=>q,fun _ _ _ q=>q⟩
theorem Un.refl:Un fs ex H H h h:=Un.kept fun _ _ q=>q
theorem Un.laid (k:∀b u,h.get? b=some u→h'.get? b=some u) (hp:h.objs.size≤a) (hn:H a=none):Un fs ex H (upd H a o) h h' where
 keep:=fun b u q _ _ _=>k b u q
 slot:=fun b u q _ _ _=>⟨u.slots,k b u q⟩
 free:=fun b u q n _=>by rw [zap (Nat.ne_of_lt (Nat.lt_of_lt_of_le (Heap.lt_size q) hp))];exact n
 there:=fun b u q _=>⟨u,k b u q⟩
 tups:=fun b xs q=>by rw [zap (zbi q hn)];exact q
 frzs:=fun b u xs q=>by rw [zap (zbi q hn)];exact q
 tbls:=fun b lp lq q=>by rw [zap (zbi q hn)];exact q
theorem Un.write (mu:Mut (H x)) (he:e=x∨H e=some (.own x)) (k:∀b u,b≠e→h.get? b=some u→h'.get? b=some u) (heo:∃u,h'.get? e=some u):Un fs ex H (upd H x o) h h':=by
 have hx:∀b,H b=none→b≠x:=fun b n z=>by subst z;rw [n] at mu;exact mu
 have hb:∀b,H b=none→b≠e:=fun b n z=>by
  subst z
  rcases he with r | r
  ·exact hx b n r
  ·rw [n] at r;cases r
 have hm:∀b u,H b=some u→¬Mut (some u)→b≠x:=fun b u q nm z=>by subst z;rw [q] at mu;exact nm mu
 refine ⟨fun b u q n _ _=>k b u (hb b n) q,fun b u q n _ _=>⟨u.slots,k b u (hb b n) q⟩,fun b u q n _=>by rw [zap (hx b n)];exact n,fun b u q _=>?_,
  fun b xs q=>by rw [zap (hm b _ q fun z=>z)];exact q,fun b u xs q=>by rw [zap (hm b _ q fun z=>z)];exact q,fun b lp lq q=>by rw [zap (hm b _ q fun z=>z)];exact q⟩
 by_cases hbe:b=e
 ·subst hbe;exact heo
 ·exact ⟨u,k b u hbe q⟩
end
def trk (h:Heap) (H:Hp):List Addr:=(List.range h.objs.size).filter fun a=>(H a).isSome
def hidT (h:Heap) (H:Hp):Heap:=PySem.W.hideAll h (trk h H)
theorem zhW (h:Heap) (H:Hp):(hidT h H).objs.size=h.objs.size:=PySem.W.hideAll_size _ _
theorem zjp {h:Heap} {H:Hp} {b:Addr} {o:Obj} (e:h.get? b=some o) (n:H b=none):(hidT h H).get? b=some o:=
 PySem.W.hideAll_get _ e fun hm=>by
  have q:(H b).isSome=true:=(List.mem_filter.mp hm).2
  rw [n] at q;simp at q
theorem zkW {h:Heap} {H:Hp} {b:Addr} {o:Obj} (e:(hidT h H).get? b=some o):h.get? b=some o∧H b=none:=by
 have e':h.get? b=some o:=PySem.W.of_hideAll (trk h H) e
 refine ⟨e',?_⟩
 cases q:H b with
 | none=>rfl
 | some x=>
   have hm:b∈trk h H:=List.mem_filter.mpr ⟨List.mem_range.mpr (Heap.lt_size e'),by simp [q]⟩
   have z:(hidT h H).get? b=none:=PySem.W.hideAll_none (trk h H) hm
   rw [z] at e;cases e
def zkX (g h:Heap) (L:Addr):List (Addr × Obj):=(List.range h.objs.size).filterMap fun a=>if a=L∨(g.get? a).isSome=true then none else (h.get? a).map fun o=>(a,o)
def rest (g h:Heap) (L d:Addr):List (Addr × Obj):=(zkX g h L).filter fun p=>decide (p.1≠d)
end L2
namespace L2
open PySem PySem.Spec PyProof.Rows
structure Mod (K:PySem.W.Frag) (mg:Str→Option Value) (base:Heap):Prop where
 kin:K.In base
 glob:base.Ns mainGlobals mg
 blt:∃mb,base.Ns builtinsNs mb∧∀x:Str,x ≠ "__name__" → mb x=bootBuiltins x
 nolimit:base.NoLimit
structure Cx where
 prog:Program
 w:World
 K:PySem.W.Frag
 mg:Str→Option Value
 base:Heap
 A:Around
 N:List Str
 s₀:Shared
 H₀:Hp
 env:Env
 outer:List Env
 stack:List Env
 ex:List Addr
 fn:Str→Bool
 calm:Bool
 pn:List (Addr × Obj)
 xe:Value→Shared→Prop
def frs (l:List Env):List Addr:=l.filterMap (·.frame)
abbrev Cx.fs (X:Cx):List Addr:=frs X.outer
def Vis (sc:Scope) (x:Str):Prop:=sc.names.lookup x=some .local∨sc.names.lookup x=some .cell∨sc.names.lookup x=some .free
def Loc (sc:Scope) (x:Str):Prop:=sc.names.lookup x=some .local∨sc.names.lookup x=some .cell
def Look (env:Env) (h:Heap) (m:Str→Option Value) (x:Str) (u:Value):Prop:=
 (env.kindOf x=some .local∧m x=some u)∨((env.kindOf x=some .cell∨env.kindOf x=some .free)∧∃c,env.cells.lookup x=some c∧h.IsCell c (some u))
structure Cx.Ok (X:Cx):Prop where
 mod:Mod X.K X.mg X.base
 kind:X.env.scope.kind=.function
 glob:X.env.globals=mainGlobals
 blt:X.env.builtins=builtinsNs
 above:X.s₀.heap.objs.size≤X.env.locals
 inj:∀x y c,X.env.cells.lookup x=some c→X.env.cells.lookup y=some c→x=y
 has:∀x,(X.env.kindOf x=some .cell∨X.env.kindOf x=some .free)→∃c,X.env.cells.lookup x=some c
 cab:∀x c,X.fn x=true→X.env.cells.lookup x=some c→X.s₀.heap.objs.size≤c
 hd:X.calm=true→X.A.handled=none
 frames:X.A.frames=some X.stack
 stk:X.stack=X.outer∨(X.stack=X.env::X.outer∧X.env.frame=some X.env.locals)
 exf:∀b∈X.ex,b≠X.env.locals∧∀x c,X.env.cells.lookup x=some c→c≠b
 bs:∀b o,X.base.get? b=some o→X.s₀.heap.get? b=some o∧X.H₀ b=none
 bsz:X.base.objs.size≤X.s₀.heap.objs.size
 noex:∀b o,X.base.get? b=some o→b∉X.ex
 exfs:∀b∈X.ex,b∉X.fs
 funs:X.s₀.heap.FunFrames X.base X.outer
 frf:∀b∈X.fs,X.H₀ b=none
structure Inv (X:Cx) (pins:List (Addr × Obj)) (σ:List (Option V)) (H:Hp) (s:Shared):Prop where
 ok:X.Ok
 os:s.os=X.s₀.os
 bare:AllBare s.gens
 base:Un X.fs X.ex X.H₀ H X.s₀.heap s.heap
 loc:∃m,s.heap.Ns X.env.locals m∧∀(i:Nat) (x:Str) (v:V),X.N[i]?=some x → σ[i]?=some (some v)→Vis X.env.scope x→∃u,RelV v u∧Look X.env s.heap m x u
 cell:∀x c,X.env.cells.lookup x=some c→∃v,s.heap.IsCell c v
 free:H X.env.locals=none
 freeC:∀x c,X.env.cells.lookup x=some c→H c=none
 pin:∀p∈X.pn++pins,s.heap.get? p.1=some p.2∧H p.1=none∧p.1≠X.env.locals∧p.1∉X.fs∧∀v,p.2.data≠.cell v
 hok:HOk X.prog X.w H s.heap
 len : σ.length=X.N.length
section
variable {X:Cx} {pins:List (Addr × Obj)} {σ:List (Option V)} {H H':Hp} {s:Shared} {h':Heap}
theorem Cx.Ok.nofr (ok:X.Ok) {b:Addr} {o:Obj} (e:X.base.get? b=some o):b∉X.fs:=fun hb=>by
 have:=(ok.funs.mem hb).1
 rw [e] at this;cases this
theorem Inv.bs (I:Inv X pins σ H s):∀b o,X.base.get? b=some o→s.heap.get? b=some o∧H b=none:=fun b o e=>
 ⟨I.base.keep b o (I.ok.bs b o e).1 (I.ok.bs b o e).2 (I.ok.nofr e) (I.ok.noex b o e),I.base.free b o (I.ok.bs b o e).1 (I.ok.bs b o e).2 (I.ok.noex b o e)⟩
theorem Inv.bk (I:Inv X pins σ H s):∀b o,X.base.get? b=some o→s.heap.get? b=some o:=fun b o e=>(I.bs b o e).1
theorem Inv.mod (I:Inv X pins σ H s):Mod X.K X.mg X.base:=I.ok.mod
theorem Inv.kIn (I:Inv X pins σ H s):X.K.In s.heap:=I.ok.mod.kin.keeps I.bk
theorem Inv.nolimit (I:Inv X pins σ H s):s.heap.NoLimit:=I.ok.mod.nolimit.keeps I.bk
theorem Inv.lt (I:Inv X pins σ H s):X.env.locals<s.heap.objs.size:=let ⟨_,hn,_⟩:=I.loc;hn.lt
theorem Inv.sz (I:Inv X pins σ H s):X.s₀.heap.objs.size≤s.heap.objs.size:=Nat.le_trans I.ok.above (Nat.le_of_lt I.lt)
theorem Inv.nofs (I:Inv X pins σ H s) {a:Addr} (h:s.heap.objs.size≤a):a∉X.fs:=fun hb=>by
 obtain ⟨_,o,ho,_⟩:=I.ok.funs.mem hb
 exact absurd (Nat.lt_of_lt_of_le (Heap.lt_size ho) (Nat.le_trans I.sz h)) (Nat.lt_irrefl _)
theorem Inv.cne (I:Inv X pins σ H s):∀x c,X.env.cells.lookup x=some c→c≠X.env.locals:=fun x c e z=>by
 obtain ⟨v,o,ho,hd⟩:=I.cell x c e
 obtain ⟨m,⟨o',es,ep,ho',hd',_⟩,_⟩:=I.loc
 rw [z,ho'] at ho;cases ho;rw [hd'] at hd;cases hd
theorem Inv.funs (I:Inv X pins σ H s):s.heap.FunFrames X.base X.outer:=by
 have all:∀(l:List Env),(∀b∈frs l,b∈X.fs)→X.s₀.heap.FunFrames X.base l→s.heap.FunFrames X.base l:=by
  intro l
  induction l with
  | nil=>intro _ _;trivial
  | cons env r ih=>
    intro hs hl
    obtain ⟨hk,⟨L,o,hf,hn,ho,hd⟩,hr⟩:=hl
    have hL:L∈X.fs:=hs L (by unfold frs;rw [List.filterMap_cons,hf];exact List.mem_cons_self)
    obtain ⟨sl,e⟩:=I.base.slot L o ho (I.ok.frf L hL) hL fun z=>I.ok.exfs L z hL
    exact ⟨hk,⟨L,_,hf,hn,e,hd⟩,ih (fun b hb=>hs b (by unfold frs;rw [List.filterMap_cons,hf];exact List.mem_cons_of_mem _ hb)) hr⟩
 exact all X.outer (fun _ hb=>hb) I.ok.funs
theorem Inv.stack (I:Inv X pins σ H s):s.heap.FunFrames X.base X.stack:=by
 rcases I.ok.stk with e | ⟨e,hf⟩
 ·rw [e];exact I.funs
 ·rw [e]
  obtain ⟨m,hn,_⟩:=I.loc
  refine .cons (by rw [I.ok.kind];decide) hf hn ?_ I.funs
  exact Heap.get?_none_of_le (Nat.le_trans I.ok.bsz I.ok.above)
theorem Inv.stkSub (I:Inv X pins σ H s):∀b∈frs X.stack,b∈X.env.locals::X.fs:=fun b hb=>by
 rcases I.ok.stk with e | ⟨e,hf⟩
 ·rw [e] at hb;exact List.mem_cons_of_mem _ hb
 ·rw [e] at hb
  unfold frs at hb
  rw [List.filterMap_cons,hf] at hb
  exact hb
theorem Inv.stkFree (I:Inv X pins σ H s):∀b∈frs X.stack,H b=none:=fun b hb=>by
 rcases List.mem_cons.mp (I.stkSub b hb) with e | hb
 ·rw [e];exact I.free
 ·obtain ⟨_,o,ho,_⟩:=I.ok.funs.mem hb
  exact I.base.free b o ho (I.ok.frf b hb) fun z=>I.ok.exfs b z hb
theorem Inv.step {g':Array GenState} {t':Nat} {d':Drawn} {ch:List Addr} (I:Inv X pins σ H s)
  (hch:∀b∈ch,(b∈X.ex∨X.s₀.heap.objs.size≤b)∧b≠X.env.locals∧(∀x c,X.env.cells.lookup x=some c→c≠b)∧∀p∈X.pn++pins,p.1≠b)
  (keep:∀b o,b≠X.env.locals→b∉X.fs→b∉ch→s.heap.get? b=some o→H b=none→h'.get? b=some o)
  (slot:∀b o,b≠X.env.locals→b∈X.fs→b∉ch→s.heap.get? b=some o→H b=none→∃sl,h'.get? b=some { o with slots:=sl }) (free:∀b o,b∉ch→s.heap.get? b=some o→H b=none→H' b=none)
  (there:∀b o,b∉ch→s.heap.get? b=some o→∃o',h'.get? b=some o')
  (tups:∀b xs,H b=some (.tup xs)→H' b=some (.tup xs)) (frzs:∀b o u,H b=some (.frz o u)→H' b=some (.frz o u)) (tbls:∀b lp lq,H b=some (.tbl lp lq)→H' b=some (.tbl lp lq))
  (ns:∀m,s.heap.Ns X.env.locals m→h'.Ns X.env.locals m) (hok:HOk X.prog X.w H' h') (hg:AllBare g'):
  Inv X pins σ H' { s with heap:=h',gens:=g',drawn:=d',toks:=t' }:=by
 have neL:∀b o,X.s₀.heap.get? b=some o→b≠X.env.locals:=fun b o e=>Nat.ne_of_lt (Nat.lt_of_lt_of_le (Heap.lt_size e) I.ok.above)
 have neC:∀b o,X.s₀.heap.get? b=some o→b∉X.ex→b∉ch:=fun b o e hx hb=>by
  rcases (hch b hb).1 with z | z
  ·exact hx z
  ·exact absurd (Nat.lt_of_lt_of_le (Heap.lt_size e) z) (Nat.lt_irrefl _)
 have cellK:∀x c,X.env.cells.lookup x=some c→∀v,s.heap.IsCell c v→h'.IsCell c v:=fun x c e v ⟨o,ho,hd⟩=>by
  have nch:c∉ch:=fun z=>(hch c z).2.2.1 x c e rfl
  by_cases hc:c∈X.fs
  ·obtain ⟨sl,q⟩:=slot c o (I.cne x c e) hc nch ho (I.freeC x c e)
   exact ⟨_,q,hd⟩
  ·exact ⟨o,keep c o (I.cne x c e) hc nch ho (I.freeC x c e),hd⟩
 refine ⟨I.ok,I.os,hg,⟨fun b o e n hb hx=>?_,fun b o e n hb hx=>?_,fun b o e n hx=>?_,fun b o e hx=>?_,fun b xs e=>tups b xs (I.base.tups b xs e),fun b o xs e=>frzs b o xs (I.base.frzs b o xs e),fun b lp lq e=>tbls b lp lq (I.base.tbls b lp lq e)⟩,?_,fun x c e=>?_,?_,fun x c e=>?_,fun p hp=>?_,hok,I.len⟩
 ·exact keep b o (neL b o e) hb (neC b o e hx) (I.base.keep b o e n hb hx) (I.base.free b o e n hx)
 ·obtain ⟨sl,e1⟩:=I.base.slot b o e n hb hx
  obtain ⟨sl',e2⟩:=slot b _ (neL b o e) hb (neC b o e hx) e1 (I.base.free b o e n hx)
  exact ⟨sl',e2⟩
 ·obtain ⟨o',e1⟩:=I.base.there b o e hx
  exact free b o' (neC b o e hx) e1 (I.base.free b o e n hx)
 ·obtain ⟨o',e1⟩:=I.base.there b o e hx
  exact there b o' (neC b o e hx) e1
 ·obtain ⟨m,hn,hl⟩:=I.loc
  refine ⟨m,ns m hn,fun i x v e1 e2 e3=>?_⟩
  obtain ⟨u,r,l⟩:=hl i x v e1 e2 e3
  refine ⟨u,r,?_⟩
  rcases l with l | ⟨k,c,e,z⟩
  ·exact .inl l
  ·exact .inr ⟨k,c,e,cellK x c e _ z⟩
 ·obtain ⟨v,z⟩:=I.cell x c e
  exact ⟨v,cellK x c e v z⟩
 ·obtain ⟨m,⟨o,_,_,ho,_⟩,_⟩:=I.loc
  exact free _ o (fun z=>(hch _ z).2.1 rfl) ho I.free
 ·obtain ⟨v,o,ho,hd⟩:=I.cell x c e
  exact free c o (fun z=>(hch c z).2.2.1 x c e rfl) ho (I.freeC x c e)
 ·obtain ⟨e,n,ne,nf,d⟩:=I.pin p hp
  have nch:p.1∉ch:=fun z=>(hch p.1 z).2.2.2 p hp rfl
  exact ⟨keep p.1 p.2 ne nf nch e n,free p.1 p.2 nch e n,ne,nf,d⟩
theorem Inv.un {t':Nat} (I:Inv X pins σ H s) (u:Un X.fs [] H H' s.heap h') (hok:HOk X.prog X.w H' h'):Inv X pins σ H' { s with heap:=h',toks:=t' }:=by
 obtain ⟨m,⟨o,es,ep,ho,r⟩,_⟩:=id I.loc
 obtain ⟨sl,hL⟩:=u.any ho I.free (by simp)
 exact I.step (g':=s.gens) (d':=s.drawn) (ch:=[]) (fun _ z=>nomatch z) (fun b o _ hb _ e n=>u.keep b o e n hb (by simp)) (fun b o _ hb _ e n=>u.slot b o e n hb (by simp)) (fun b o _ e n=>u.free b o e n (by simp)) (fun b o _ e=>u.there b o e (by simp)) u.tups u.frzs u.tbls (fun m' hm=>by
  obtain ⟨o',es',ep',ho',r'⟩:=hm
  rw [ho] at ho';cases ho'
  exact ⟨_,es',ep',hL,r'⟩) hok I.bare
theorem Inv.call {g':Array GenState} {t':Nat} {d':Drawn} {ch:List Addr} (I:Inv X pins σ H s) (u:Un (frs X.stack) ch H H' s.heap h') (hok:HOk X.prog X.w H' h') (hg:AllBare g')
  (hch:∀b∈ch,(b∈X.ex∨X.s₀.heap.objs.size≤b)∧b≠X.env.locals∧(∀x c,X.env.cells.lookup x=some c→c≠b)∧∀p∈X.pn++pins,p.1≠b):
  Inv X pins σ H' { s with heap:=h',gens:=g',drawn:=d',toks:=t' }:=by
 obtain ⟨m,⟨o,es,ep,ho,r⟩,_⟩:=id I.loc
 obtain ⟨sl,hL⟩:=u.any ho I.free fun z=>(hch _ z).2.1 rfl
 exact I.step (ch:=ch) hch (fun b o hL hb hc e n=>u.keep b o e n (fun z=>(List.mem_cons.mp (I.stkSub b z)).elim hL hb) hc) (fun b o _ _ hc e n=>u.any e n hc) (fun b o hc e n=>u.free b o e n hc) (fun b o hc e=>u.there b o e hc) u.tups u.frzs u.tbls (fun m' hm=>by
  obtain ⟨o',es',ep',ho',r'⟩:=hm
  rw [ho] at ho';cases ho'
  exact ⟨_,es',ep',hL,r'⟩) hok hg
theorem Inv.turned {t':Nat} {it:Addr} (I:Inv X pins σ H s) (k:∀b o,b≠it→s.heap.get? b=some o→h'.get? b=some o) (hn:H it=none) (hL:it≠X.env.locals)
  (h1:it∈X.ex∨X.s₀.heap.objs.size≤it) (h2:∀x c,X.env.cells.lookup x=some c→c≠it) (h3:∀p∈X.pn++pins,p.1≠it):Inv X pins σ H { s with heap:=h',toks:=t' }:=by
 have nit:∀b u,H b=some u→b≠it:=fun b u e z=>by rw [z,hn] at e;cases e
 refine I.step (g':=s.gens) (d':=s.drawn) (ch:=[it]) (fun b hb=>?_) (fun b o _ _ hc e _=>k b o (fun z=>hc (by simp [z])) e) (fun b o _ _ hc e _=>⟨o.slots,k b o (fun z=>hc (by simp [z])) e⟩) (fun _ _ _ _ n=>n)
  (fun b o hc e=>⟨o,k b o (fun z=>hc (by simp [z])) e⟩) (fun _ _ e=>e) (fun _ _ _ e=>e) (fun _ _ _ e=>e) (fun m hm=>?_) (fun b u e=>?_) I.bare
 ·have e:b=it:=by simpa using hb
  subst e
  exact ⟨h1,hL,h2,h3⟩
 ·obtain ⟨o,es,ep,ho,r⟩:=hm
  exact ⟨o,es,ep,k _ o (Ne.symm hL) ho,r⟩
 ·refine (I.hok b u e).stay (fun c v hc q=>k c v ?_ q) (fun _ q=>q) (fun _ _ q=>q) fun _ _ _ q=>q
  rcases hc with z | z
  ·rw [z];exact nit b u e
  ·exact nit c _ z
theorem Inv.tok (I:Inv X pins σ H s) (t:Nat):Inv X pins σ H { s with toks:=t }:=I.un (h':=s.heap) (t':=t) Un.refl I.hok
theorem Inv.kept {t':Nat} (I:Inv X pins σ H s) (k:∀b u,s.heap.get? b=some u→h'.get? b=some u):Inv X pins σ H { s with heap:=h',toks:=t' }:=I.un (Un.kept k) (I.hok.kept k)
theorem Inv.laid {a:Addr} {o:HO} {t':Nat} (I:Inv X pins σ H s) (k:∀b u,s.heap.get? b=some u→h'.get? b=some u) (hp:s.heap.objs.size≤a) (new:zbJ X.prog X.w (upd H a o) h' a o):
 Inv X pins σ (upd H a o) { s with heap:=h',toks:=t' }:=I.un (Un.laid k hp (I.hok.fresh hp)) (I.hok.laid k hp new)
theorem Inv.write {x e:Addr} {o:HO} {t':Nat} (I:Inv X pins σ H s) (mu:Mut (H x)) (he:e=x∨H e=some (.own x)) (k:∀b u,b≠e→s.heap.get? b=some u→h'.get? b=some u) (heo:∃u,h'.get? e=some u)
 (new:zbJ X.prog X.w (upd H x o) h' x o):Inv X pins σ (upd H x o) { s with heap:=h',toks:=t' }:=I.un (Un.write mu he k heo) (I.hok.write mu he k heo new)
theorem Inv.pins_of {pins':List (Addr × Obj)} (I:Inv X pins σ H s) (h:∀p∈pins',s.heap.get? p.1=some p.2∧H p.1=none∧p.1≠X.env.locals∧p.1∉X.fs∧∀v,p.2.data≠.cell v):Inv X pins' σ H s:=
 ⟨I.ok,I.os,I.bare,I.base,I.loc,I.cell,I.free,I.freeC,fun p hp=>(List.mem_append.mp hp).elim (fun z=>I.pin p (List.mem_append_left _ z)) (h p),I.hok,I.len⟩
theorem zeL {N:List Str} (hN:N.Nodup) {i j:Nat} {x:Str} (a:N[i]?=some x) (b:N[j]?=some x):i=j:=by
 obtain ⟨h1,e1⟩:=List.getElem?_eq_some_iff.mp a
 obtain ⟨h2,e2⟩:=List.getElem?_eq_some_iff.mp b
 exact (List.getElem_inj hN).mp (e1.trans e2.symm)
theorem zdR {M:Model} {A:Around} {E:Value→Shared→Prop} {i:Nat} {x:Str} {v:V} {u:Value} {Q:Unit→Shared→Prop} (I:Inv X pins σ H s) (hN:X.N.Nodup) (hi:X.N[i]?=some x) (hx:Loc X.env.scope x) (r:RelV v u)
  (h:∀s',Inv X pins (σ.set i (some v)) H s'→(∃a,Heap.SameBut a s.heap s'.heap∧(a=X.env.locals∨X.env.cells.lookup x=some a))→Q () s') (hf:X.fn x=true∨X.env.scope.names.lookup x=some .local:=by first | exact .inl rfl | exact .inr rfl | assumption):wpAny M A (storeName X.env x u) Q E s:=by
 obtain ⟨m,hn,hl⟩:=id I.loc
 have hcls:(X.env.scope.kind==.class||(X.env.scope.kind==.module&&X.env.locals != X.env.globals))=false:=by rw [I.ok.kind];rfl
 have hiσ:i < σ.length:=by rw [I.len];exact (List.getElem?_eq_some_iff.mp hi).1
 have cne:=I.cne
 have tracked:∀ {a:Addr} {h':Heap},(∃o,s.heap.get? a=some o∧H a=none)→Heap.SameBut a s.heap h'→HOk X.prog X.w H h':=fun {a h'} ha hs b ob e=>by
  obtain ⟨_,_,hfree⟩:=ha
  refine (I.hok b ob e).stay (fun c w' hc q=>(hs.2 c ?_).trans q) (fun _ q=>q) (fun _ _ q=>q) fun _ _ _ q=>q
  rintro rfl
  rcases hc with rfl | hc
  ·rw [hfree] at e;cases e
  ·rw [hfree] at hc;cases hc
 rcases hx with hk | hk
 ·refine wpAny_storeName_local hk hn (fun h' hn' hs=>?_) hcls
  obtain ⟨oL,_,_,hoL,_⟩:=id hn
  refine h _ ⟨I.ok,I.os,I.bare,⟨fun b o e n hb hx=>?_,fun b o e n hb hx=>?_,I.base.free,fun b o e hx=>?_,I.base.tups,I.base.frzs,I.base.tbls⟩,⟨_,hn',fun j y v' e1 e2 e3=>?_⟩,fun y c e=>?_,I.free,I.freeC,fun p hp=>?_,tracked ⟨oL,hoL,I.free⟩ hs,by simpa using I.len⟩ ⟨_,hs,.inl rfl⟩
  ·exact (hs.2 b (Nat.ne_of_lt (Nat.lt_of_lt_of_le (Heap.lt_size e) I.ok.above))).trans (I.base.keep b o e n hb hx)
  ·obtain ⟨sl,e1⟩:=I.base.slot b o e n hb hx
   exact ⟨sl,(hs.2 b (Nat.ne_of_lt (Nat.lt_of_lt_of_le (Heap.lt_size e) I.ok.above))).trans e1⟩
  ·obtain ⟨o',e1⟩:=I.base.there b o e hx
   exact ⟨o',(hs.2 b (Nat.ne_of_lt (Nat.lt_of_lt_of_le (Heap.lt_size e) I.ok.above))).trans e1⟩
  ·by_cases hj:j=i
   ·subst hj
    rw [hi] at e1;cases e1
    rw [List.getElem?_set_self hiσ] at e2
    cases e2
    exact ⟨u,r,.inl ⟨hk,by simp⟩⟩
   ·rw [List.getElem?_set_ne (Ne.symm hj)] at e2
    obtain ⟨u',r',q⟩:=hl j y v' e1 e2 e3
    refine ⟨u',r',?_⟩
    rcases q with ⟨k,e⟩ | ⟨k,c,e,z⟩
    ·refine .inl ⟨k,?_⟩
     have:y≠x:=fun e=>hj (zeL hN e1 (e▸hi))
     simp [this,e]
    ·exact .inr ⟨k,c,e,z.sameBut hs (cne y c e)⟩
  ·obtain ⟨w',z⟩:=I.cell y c e
   exact ⟨w',z.sameBut hs (cne y c e)⟩
  ·obtain ⟨e,n,ne,nf,d⟩:=I.pin p hp
   exact ⟨(hs.2 p.1 ne).trans e,n,ne,nf,d⟩
 ·have hfn:X.fn x=true:=by
   rcases hf with z | z
   ·exact z
   ·rw [z] at hk;cases hk
  obtain ⟨c,hc⟩:=I.ok.has x (.inl hk)
  obtain ⟨w',z⟩:=I.cell x c hc
  refine wpAny_storeName_cell I.ok.kind hk hc z (fun h' hc' hs=>?_)
  obtain ⟨oc,hoc,hocd⟩:=id z
  refine h { s with heap:=h' } ⟨I.ok,I.os,I.bare,⟨fun b o e n hb hx=>?_,fun b o e n hb hx=>?_,I.base.free,fun b o e hx=>?_,I.base.tups,I.base.frzs,I.base.tbls⟩,⟨m,hn.sameBut hs (Ne.symm (cne x c hc)),fun j y v' e1 e2 e3=>?_⟩,fun y c' e=>?_,I.free,I.freeC,fun p hp=>?_,tracked ⟨oc,hoc,I.freeC x c hc⟩ hs,by simpa using I.len⟩ ⟨c,hs,.inr hc⟩
  ·exact (hs.2 b (Nat.ne_of_lt (Nat.lt_of_lt_of_le (Heap.lt_size e) (I.ok.cab x c hfn hc)))).trans (I.base.keep b o e n hb hx)
  ·obtain ⟨sl,e1⟩:=I.base.slot b o e n hb hx
   exact ⟨sl,(hs.2 b (Nat.ne_of_lt (Nat.lt_of_lt_of_le (Heap.lt_size e) (I.ok.cab x c hfn hc)))).trans e1⟩
  ·obtain ⟨o',e1⟩:=I.base.there b o e hx
   exact ⟨o',(hs.2 b (Nat.ne_of_lt (Nat.lt_of_lt_of_le (Heap.lt_size e) (I.ok.cab x c hfn hc)))).trans e1⟩
  ·by_cases hj:j=i
   ·subst hj
    rw [hi] at e1;cases e1
    rw [List.getElem?_set_self hiσ] at e2
    cases e2
    exact ⟨u,r,.inr ⟨.inl hk,c,hc,hc'⟩⟩
   ·rw [List.getElem?_set_ne (Ne.symm hj)] at e2
    obtain ⟨u',r',q⟩:=hl j y v' e1 e2 e3
    refine ⟨u',r',?_⟩
    rcases q with q | ⟨k,c',e,z'⟩
    ·exact .inl q
    ·refine .inr ⟨k,c',e,z'.sameBut hs ?_⟩
     rintro rfl
     exact hj (zeL hN e1 (I.ok.inj _ _ _ e hc▸hi))
  ·by_cases hcc:c'=c
   ·subst hcc;exact ⟨_,hc'⟩
   ·obtain ⟨w2,z2⟩:=I.cell y c' e
    exact ⟨w2,z2.sameBut hs hcc⟩
  ·obtain ⟨e,n,ne,nf,d⟩:=I.pin p hp
   refine ⟨(hs.2 p.1 ?_).trans e,n,ne,nf,d⟩
   intro q
   rw [q,hoc] at e
   have q':oc=p.2:=Option.some.inj e
   exact d w' (by rw [←q'];exact hocd)
theorem zeM {M:Model} {A:Around} {E:Value→Shared→Prop} {i:Nat} {x:Str} {v:V} {u:Value} {Q:Unit→Shared→Prop} (I:Inv X pins σ H s) (hN:X.N.Nodup) (hi:X.N[i]?=some x) (hx:Loc X.env.scope x) (r:RelV v u)
  (h:∀s',Inv X pins (σ.set i (some v)) H s'→Q () s') (hf:X.fn x=true∨X.env.scope.names.lookup x=some .local:=by first | exact .inl rfl | exact .inr rfl | assumption):wpAny M A (storeName X.env x u) Q E s:=
 zdR I hN hi hx r (fun s' I' _=>h s' I') hf
theorem Inv.call' {s':Shared} {ch:List Addr} (I:Inv X pins σ H s) (ho:s'.os=s.os) (u:Un (frs X.stack) ch H H' s.heap s'.heap) (hok:HOk X.prog X.w H' s'.heap) (hg:AllBare s'.gens)
  (hch:∀b∈ch,(b∈X.ex∨X.s₀.heap.objs.size≤b)∧b≠X.env.locals∧(∀x c,X.env.cells.lookup x=some c→c≠b)∧∀p∈X.pn++pins,p.1≠b):Inv X pins σ H' s':=by
 obtain ⟨h',g',d',t',o'⟩:=s'
 have e:o'=s.os:=ho
 subst e
 exact I.call (g':=g') (t':=t') (d':=d') u hok hg hch
end
abbrev XK:=Value→Option Addr→Hp→Prop
abbrev St:=List (Option V)
abbrev VK:=V→Hp→Prop
abbrev TE:=St→Hp→VK→Prop
abbrev TT:=St→Hp→(Bool→Hp→Prop)→Prop
abbrev TA:=St→Hp→(List V→Hp→Prop)→Prop
structure Ends where
 nx:St→Hp→Prop
 rt:VK
 bk:St→Hp→Prop:=fun _ _=>False
 ct:St→Hp→Prop:=fun _ _=>False
abbrev TS:=Ends→St→Hp→Prop
def EP (X:Cx) (pins:List (Addr × Obj)) (σ:St) (Q:VK) (u:Value) (s':Shared):Prop:=∃v H',Inv X pins σ H' s'∧RelV v u∧Q v H'
def TP (X:Cx) (pins:List (Addr × Obj)) (σ:St) (Q:Bool→Hp→Prop) (b:Bool) (s':Shared):Prop:=∃H',Inv X pins σ H' s'∧Q b H'
def AP (X:Cx) (pins:List (Addr × Obj)) (σ:St) (Q:List V→Hp→Prop) (us:List Value) (s':Shared):Prop:=∃vs H',Inv X pins σ H' s'∧Vals vs us∧Q vs H'
def SP (X:Cx) (pins:List (Addr × Obj)) (D:Ends) (f:Flow) (s':Shared):Prop:=
 match f with
 | .next=>∃ σ' H',Inv X pins σ' H' s'∧D.nx σ' H'
 | .brk=>∃ σ' H',Inv X pins σ' H' s'∧D.bk σ' H'
 | .cont=>∃ σ' H',Inv X pins σ' H' s'∧D.ct σ' H'
 | .ret u=>∃v σ' H',Inv X pins σ' H' s'∧RelV v u∧D.rt v H'
@[irreducible] def PE (X:Cx) (e:Expr) (t:TE):Prop:=
  ∀(pins:List (Addr × Obj)) (s:Shared) (σ:St) (H:Hp) (Q:VK),Inv X pins σ H s→t σ H Q→wpAny (model X.prog X.w) X.A (eval e X.env) (EP X pins σ Q) X.xe s
@[irreducible] def PT (X:Cx) (e:Expr) (t:TT):Prop:=
  ∀(pins:List (Addr × Obj)) (s:Shared) (σ:St) (H:Hp) (Q:Bool→Hp→Prop),Inv X pins σ H s→t σ H Q→wpAny (model X.prog X.w) X.A (isTrue e X.env (eval e X.env)) (TP X pins σ Q) X.xe s
def PW (X:Cx) (e:Expr) (t:TT):Prop:=
 ∀(whole:Sem Value) (pins:List (Addr × Obj)) (s:Shared) (σ:St) (H:Hp) (Q:Bool→Hp→Prop),Inv X pins σ H s→t σ H Q→wpAny (model X.prog X.w) X.A (isTrue e X.env whole) (TP X pins σ Q) X.xe s
theorem PW.pt {X:Cx} {e:Expr} {t:TT} (h:PW X e t):PT X e t:=by
 with_unfolding_all
  exact h _
@[irreducible] def PA (X:Cx) (es:List Expr) (t:TA):Prop:=
  ∀(pos:Pos) (pins:List (Addr × Obj)) (s:Shared) (σ:St) (H:Hp) (Q:List V→Hp→Prop),Inv X pins σ H s→t σ H Q→wpAny (model X.prog X.w) X.A (spliced (backTo pos (starEach es X.env))) (AP X pins σ Q) X.xe s
@[irreducible] def PS (X:Cx) (st:Stmt) (t:TS):Prop:=
  ∀(pins:List (Addr × Obj)) (s:Shared) (σ:St) (H:Hp) (D:Ends),Inv X pins σ H s→t D σ H→wpAny (model X.prog X.w) X.A (exec st X.env) (SP X pins D) X.xe s
@[irreducible] def PSs (X:Cx) (st:List Stmt) (t:TS):Prop:=
  ∀(pins:List (Addr × Obj)) (s:Shared) (σ:St) (H:Hp) (D:Ends),Inv X pins σ H s→t D σ H→wpAny (model X.prog X.w) X.A (execs st X.env) (SP X pins D) X.xe s
theorem thn {α:Type} {t:Sem α} {Q Q' : α→Shared→Prop} {M:Model} {A:Around} {E:Value→Shared→Prop} {s:Shared} (h:wpAny M A t Q E s) (hQ:∀a s,Q a s→Q' a s):wpAny M A t Q' E s:=wpAny_mono h hQ fun _ _ x=>x
end L2
namespace L2
open PySem PySem.Spec PyProof.Rows
section
variable {X:Cx}
def tVar (i:Nat):TE:=fun σ H Q=>∃v,σ[i]?=some (some v)∧Q v H
def tC (v:V):TE:=fun _ H Q=>Q v H
theorem zko {i:Nat} {x:Str} {pos:Pos} (hN:X.N[i]?=some x) (hv:Vis X.env.scope x) (hd:(x==("__debug__" : Str))=false:=by decide) (hcd:(x==("__classdict__" : Str))=false:=by decide):PE X (.Name x pos) (tVar i):=by
 with_unfolding_all
  intro pins s σ H Q I h
  obtain ⟨v,e,h⟩:=h
  obtain ⟨m,hn,hl⟩:=I.loc
  obtain ⟨u,r,l⟩:=hl i x v hN e hv
  have fin:EP X pins σ Q u s:=⟨v,H,I,r,h⟩
  rcases l with ⟨hk,hm⟩ | ⟨hk,c,hc,hcell⟩
  ·exact wpAny_Name (wpAny_loadName_local I.ok.kind hk hn hm fin) hd
  ·rcases hk with hk | hk
   ·exact wpAny_Name (wpAny_loadName_cell I.ok.kind hk hc hcell fin) hd
   ·exact wpAny_Name (wpAny_loadName_free I.ok.kind hk hc hcell fin hcd) hd
theorem zab {i j pos}:PE X (.Constant (.int i) j pos) (tC (.int i)):=by
 with_unfolding_all
  exact fun _ _ _ H _ I h=>wpAny_Constant_int ⟨.int i,H,I.tok _,⟨_,rfl⟩,h⟩
theorem zdS {b j pos}:PE X (.Constant (.bool b) j pos) (tC (.bl b)):=by
 with_unfolding_all
  exact fun _ _ _ H _ I h=>Constant_bool ⟨.bl b,H,I,rfl,h⟩
theorem zhX {j pos}:PE X (.Constant .none j pos) (tC .non):=by
 with_unfolding_all
  exact fun _ _ _ H _ I h=>Constant_none ⟨.non,H,I,rfl,h⟩
def Gl (X:Cx) (x:Str):Prop:=X.env.kindOf x=some .globalImplicit
theorem zkY {E:Value→Shared→Prop} {pins:List (Addr × Obj)} {s:Shared} {σ:St} {H:Hp} {x:Str} {u:Value} {pos:Pos} {Q:Value→Shared→Prop} (I:Inv X pins σ H s) (hg:Gl X x) (hm:X.mg x=some u) (h:Q u s)
  (hd:(x==("__debug__" : Str))=false:=by decide):wpAny (model X.prog X.w) X.A (eval (.Name x pos) X.env) Q E s:=
 Calls.Name_function_global I.ok.kind hg (Calls.loadGlobal_global (by rw [I.ok.glob];exact I.mod.glob.keeps I.bk) hm h) hd
theorem zdu {E:Value→Shared→Prop} {pins:List (Addr × Obj)} {s:Shared} {σ:St} {H:Hp} {x:Str} {u:Value} {pos:Pos} {Q:Value→Shared→Prop} (I:Inv X pins σ H s) (hg:Gl X x) (hm:X.mg x=none) (hv:bootBuiltins x=some u) (h:Q u s)
  (hn:x ≠ "__name__" := by decide) (hd:(x==("__debug__" : Str))=false:=by decide):wpAny (model X.prog X.w) X.A (eval (.Name x pos) X.env) Q E s:=by
 obtain ⟨mb,h1,h2⟩:=I.mod.blt
 exact Calls.Name_function_global I.ok.kind hg (Calls.loadGlobal_builtin (by rw [I.ok.glob];exact I.mod.glob.keeps I.bk) hm (by rw [I.ok.blt];exact h1.keeps I.bk) ((h2 x hn).trans hv) h) hd
theorem zhY {x:Str} {v:V} {u:Value} {pos:Pos} (hg:Gl X x) (hm:X.mg x=none) (hv:bootBuiltins x=some u) (r:RelV v u) (hn:x ≠ "__name__" := by decide) (hd:(x==("__debug__" : Str))=false:=by decide):PE X (.Name x pos) (tC v):=by
 with_unfolding_all
  exact fun _ _ _ H _ I h=>zdu I hg hm hv ⟨v,H,I,r,h⟩ hn hd
variable {a b:Expr} {ta tb:TE} {pos:Pos}
def tB (t:TE):TT:=fun σ H Q=>t σ H fun x H1=>∃c,x=.bl c∧Q c H1
theorem zfo {e:Expr} {t:TE} (h:PE X e t) (he:∀whole,isTrue e X.env whole=(do let v ←whole;standAt e.pos;holding [v] (truthy v)):=by intro _;rfl):PT X e (tB t):=by
 with_unfolding_all
  intro pins s σ H Q I hw
  refine isTrue_plain (thn (h pins s σ H _ I hw) fun v s1 ⟨x,H1,I1,r1,q1⟩=>?_) (he _)
  obtain ⟨d,rfl,q⟩:=q1
  cases r1
  exact wpAny_truthy_bool ⟨H1,I1,q⟩
variable {tA tB':TT} {rest:List Expr}
def tAnd (t u:TT):TT:=fun σ H Q=>t σ H fun c H1=>if c=true then u σ H1 Q else Q false H1
def tOr (t u:TT):TT:=fun σ H Q=>t σ H fun c H1=>if c=true then Q true H1 else u σ H1 Q
def tNot (t:TT):TT:=fun σ H Q=>t σ H fun c H1=>Q (!c) H1
theorem zeN (ha:PT X a tA):PW X (.BoolOp .And [a] pos) tA:=by
 with_unfolding_all
  intro wh pins s σ H Q I h
  refine isTrue_and (thn (ha pins s σ H Q I h) fun c s1 e=>?_)
  cases c with
  | true=>exact isTrue_and_nil e
  | false=>exact e
theorem zkp (ha:PT X a tA):PW X (.BoolOp .Or [a] pos) tA:=by
 with_unfolding_all
  intro wh pins s σ H Q I h
  refine isTrue_or (thn (ha pins s σ H Q I h) fun c s1 e=>?_)
  cases c with
  | false=>exact isTrue_or_nil e
  | true=>exact e
theorem zgL (ha:PT X a tA) (hb:PW X (.BoolOp .And (b::rest) pos) tB'):PW X (.BoolOp .And (a::b::rest) pos) (tAnd tA tB'):=by
 with_unfolding_all
  intro wh pins s σ H Q I h
  refine isTrue_and (thn (ha pins s σ H _ I h) fun c s1 ⟨H1,I1,q1⟩=>?_)
  cases c with
  | true=>exact hb wh pins s1 σ H1 Q I1 q1
  | false=>exact ⟨H1,I1,q1⟩
theorem zl1 (ha:PT X a tA) (hb:PW X (.BoolOp .Or (b::rest) pos) tB'):PW X (.BoolOp .Or (a::b::rest) pos) (tOr tA tB'):=by
 with_unfolding_all
  intro wh pins s σ H Q I h
  refine isTrue_or (thn (ha pins s σ H _ I h) fun c s1 ⟨H1,I1,q1⟩=>?_)
  cases c with
  | true=>exact ⟨H1,I1,q1⟩
  | false=>exact hb wh pins s1 σ H1 Q I1 q1
theorem zgM (ha:PT X a tA):PT X (.UnaryOp .Not a pos) (tNot tA):=by
 with_unfolding_all
  intro pins s σ H Q I h
  exact isTrue_not (ha pins s σ H (fun c H1=>Q (!c) H1) I h)
def zm3 (ta tb:TE):TE:=fun σ H Q=>ta σ H fun x H1=>∃c,x=.bl c∧if c=true then tb σ H1 Q else Q (.bl false) H1
theorem zgN {op} {t:TE} (h:PE X a t):PE X (.BoolOp op [a] pos) t:=by
 with_unfolding_all
  exact fun pins s σ H Q I hw=>BoolOp_one (h pins s σ H Q I hw)
theorem zhZ (ha:PE X a ta) (hb:PE X (.BoolOp .And (b::rest) pos) tb):PE X (.BoolOp .And (a::b::rest) pos) (zm3 ta tb):=by
 with_unfolding_all
  intro pins s σ H Q I h
  refine BoolOp_and (thn (ha pins s σ H _ I h) fun v s1 ⟨x,H1,I1,r1,q1⟩=>?_)
  obtain ⟨c,rfl,q1⟩:=q1
  cases r1
  refine wpAny_truthy_bool ?_
  cases c with
  | true=>exact hb pins s1 σ H1 Q I1 q1
  | false=>exact ⟨.bl false,H1,I1,rfl,q1⟩
def tIf (t:TT) (ta tb:TE):TE:=fun σ H Q=>t σ H fun c H1=>if c=true then ta σ H1 Q else tb σ H1 Q
theorem zeO {c:Expr} (hc:PT X c tA) (ha:PE X a ta) (hb:PE X b tb):PE X (.IfExp c a b pos) (tIf tA ta tb):=by
 with_unfolding_all
  intro pins s σ H Q I h
  refine wpAny_IfExp (thn (hc pins s σ H _ I h) fun d s1 ⟨H1,I1,q1⟩=>?_)
  cases d with
  | true=>exact ha pins s1 σ H1 Q I1 q1
  | false=>exact hb pins s1 σ H1 Q I1 q1
end
end L2
namespace L2
open PySem PySem.Spec PyProof.Rows
def SqL (K:PySem.W.Frag) (H:Hp) (a:Addr) (xs:List V):Prop:=
 Rd H a (.lst xs) ∨
  ∃(o:Obj) (its:Array Value) (n:Nat),K.lookup a=some o∧o.cls=.type "list" ∧ o.dict=none∧o.data=.seq its n∧its.size≤sizeLine∧Vals xs its.toList
def SqT (K:PySem.W.Frag) (H:Hp) (a:Addr) (xs:List V):Prop:=
 Rd H a (.tup xs) ∨
  ∃(o:Obj) (its:Array Value) (n:Nat),K.lookup a=some o∧o.cls=.type "tuple" ∧ o.data=.seq its n∧its.size≤sizeLine∧Vals xs its.toList
def absV:Value→Option V
 | .none=>some .non
 | .bool b=>some (.bl b)
 | .int i _=>some (.int i)
 | .str x _=>some (.str x)
 | .bytes b _=>some (.byt b)
 | .float b _=>some (.flt b)
 | .ref a=>some (.ref a)
 | .type n=>some (.ty n)
 | _=>none
theorem RelV.abs {x:V} {u:Value} (r:RelV x u):absV u=some x:=by
 cases x with
 | non=>cases r;rfl
 | bl _=>cases r;rfl
 | int _=>obtain ⟨t,rfl⟩:=r;rfl
 | str _=>obtain ⟨t,rfl⟩:=r;rfl
 | byt _=>obtain ⟨t,rfl⟩:=r;rfl
 | flt _=>obtain ⟨t,rfl⟩:=r;rfl
 | ref _=>cases r;rfl
 | ty _=>cases r;rfl
theorem RelV.inj {x y:V} {u:Value} (r:RelV x u) (q:RelV y u):x=y:=Option.some.inj (r.abs.symm.trans q.abs)
theorem Vals.inj:∀ {xs ys:List V} {us:List Value},Vals xs us→Vals ys us→xs=ys
 | _,_,_,.nil,.nil=>rfl
 | _,_,_,.cons r t,.cons r' t'=>by rw [r.inj r',Vals.inj t t']
section
variable {X:Cx} {pins:List (Addr × Obj)} {σ:St} {H:Hp} {s:Shared} {a:Addr} {xs ys:List V}
theorem SqL.of {K:PySem.W.Frag} (h:H a=some (.lst xs)):SqL K H a xs:=.inl (.inl h)
theorem SqT.of {K:PySem.W.Frag} (h:H a=some (.tup xs)):SqT K H a xs:=.inl (.inl h)
theorem Inv.list (I:Inv X pins σ H s) (h:SqL X.K H a xs):∃its:List Value,Vals xs its∧PlainL s.heap a its.toArray∧xs.length≤sizeLine:=by
 rcases h with h | ⟨o,its,n,hk,hc,hd,hs,hz,r⟩
 ·obtain ⟨z,its,n,r,e⟩:=h.ok I.hok
  exact ⟨its,r,⟨_,n,e,rfl,rfl,rfl⟩,z⟩
 ·refine ⟨its.toList,r,⟨o,n,I.kIn a o hk,hc,hd,by simpa using hs⟩,?_⟩
  have e:=r.length
  simp only [Array.length_toList] at e
  omega
theorem Inv.tuple (I:Inv X pins σ H s) (h:SqT X.K H a xs):∃its:List Value,Vals xs its∧IsTup s.heap a its.toArray∧xs.length≤sizeLine:=by
 rcases h with h | ⟨o,its,n,hk,hc,hs,hz,r⟩
 ·obtain ⟨z,its,r,p⟩:=h.ok I.hok
  exact ⟨its,r,p,z⟩
 ·refine ⟨its.toList,r,⟨o,I.kIn a o hk,hc,n,by simpa using hs⟩,?_⟩
  have e:=r.length
  simp only [Array.length_toList] at e
  omega
theorem Inv.list_inj (I:Inv X pins σ H s) (h:SqL X.K H a xs) (h':SqL X.K H a ys):xs=ys:=by
 obtain ⟨its,r,⟨o,n,e,_,_,d⟩,_⟩:=I.list h
 obtain ⟨its',r',⟨o',n',e',_,_,d'⟩,_⟩:=I.list h'
 rw [e] at e';cases e'
 rw [d] at d'
 injection d' with d1 _
 have:its=its':=by simpa using congrArg Array.toList d1
 subst this
 exact r.inj r'
theorem Inv.tuple_inj (I:Inv X pins σ H s) (h:SqT X.K H a xs) (h':SqT X.K H a ys):xs=ys:=by
 obtain ⟨its,r,⟨o,e,_,n,d⟩,_⟩:=I.tuple h
 obtain ⟨its',r',⟨o',e',_,n',d'⟩,_⟩:=I.tuple h'
 rw [e] at e';cases e'
 rw [d] at d'
 injection d' with d1 _
 have:its=its':=by simpa using congrArg Array.toList d1
 subst this
 exact r.inj r'
end
abbrev Cx.wish (X:Cx) (E:Value→Shared→Prop):Cx := { X with xe:=E }
abbrev Cx.nox (X:Cx):Cx:=X.wish fun _ _=>False
theorem Cx.Ok.wish {X:Cx} (ok:X.Ok) (E:Value→Shared→Prop):(X.wish E).Ok:=
 ⟨ok.mod,ok.kind,ok.glob,ok.blt,ok.above,ok.inj,ok.has,ok.cab,ok.hd,ok.frames,ok.stk,ok.exf,ok.bs,ok.bsz,ok.noex,ok.exfs,ok.funs,ok.frf⟩
theorem Cx.Ok.unwish {X:Cx} {E:Value→Shared→Prop} (ok:(X.wish E).Ok):X.Ok:=
 ⟨ok.mod,ok.kind,ok.glob,ok.blt,ok.above,ok.inj,ok.has,ok.cab,ok.hd,ok.frames,ok.stk,ok.exf,ok.bs,ok.bsz,ok.noex,ok.exfs,ok.funs,ok.frf⟩
section
variable {X:Cx} {pins:List (Addr × Obj)} {σ:St} {H:Hp} {s:Shared} {E:Value→Shared→Prop}
theorem Inv.wish (I:Inv X pins σ H s) (E:Value→Shared→Prop):Inv (X.wish E) pins σ H s:=⟨I.ok.wish E,I.os,I.bare,I.base,I.loc,I.cell,I.free,I.freeC,I.pin,I.hok,I.len⟩
theorem Inv.unwish (I:Inv (X.wish E) pins σ H s):Inv X pins σ H s:=⟨I.ok.unwish,I.os,I.bare,I.base,I.loc,I.cell,I.free,I.freeC,I.pin,I.hok,I.len⟩
theorem SP.unwish {D:Ends} {f:Flow} {s':Shared} (h:SP (X.wish E) pins D f s'):SP X pins D f s':=by
 cases f with
 | next=>obtain ⟨σ',H',I,q⟩:=h;exact ⟨σ',H',I.unwish,q⟩
 | brk=>obtain ⟨σ',H',I,q⟩:=h;exact ⟨σ',H',I.unwish,q⟩
 | cont=>obtain ⟨σ',H',I,q⟩:=h;exact ⟨σ',H',I.unwish,q⟩
 | ret u=>obtain ⟨v,σ',H',I,r,q⟩:=h;exact ⟨v,σ',H',I.unwish,r,q⟩
theorem PSs.nox {st:List Stmt} {t:TS} (h:PSs X.nox st t):PSs X st t:=by
 with_unfolding_all
  exact fun pins s σ H D I hw=>
   wpAny_mono (h pins s σ H D (I.wish _) hw) (fun _ _ q=>q.unwish) fun _ _ z=>False.elim z
end
section
variable {X:Cx} {st:Stmt} {rest:List Stmt} {t u:TS} {e:Expr} {te:TE} {pos:Pos}
def zm4:TS:=fun D σ H=>D.nx σ H
def tSeq (t u:TS):TS:=fun D σ H=>t { D with nx:=u D } σ H
theorem zaY:PSs X [] zm4:=by
 with_unfolding_all
  exact fun _ _ σ H _ I h=>wpAny_execs_nil ⟨σ,H,I,h⟩
theorem zad (h1:PS X st t) (h2:PSs X rest u):PSs X (st::rest) (tSeq t u):=by
 with_unfolding_all
  intro pins s σ H D I h
  refine wpAny_execs_cons (thn (h1 pins s σ H { D with nx:=u D } I h) fun f s1 q=>?_)
  cases f with
  | next=>
    obtain ⟨σ',H',I',q⟩:=q
    exact h2 pins s1 σ' H' D I' q
  | ret v=>exact q
  | brk=>exact q
  | cont=>exact q
theorem zaf (h1:PS X st t):PSs X [st] t:=by
 with_unfolding_all
  intro pins s σ H D I h
  refine wpAny_execs_cons (thn (h1 pins s σ H D I h) fun f s1 q=>?_)
  cases f with
  | next=>exact wpAny_execs_nil q
  | ret v=>exact q
  | brk=>exact q
  | cont=>exact q
theorem Inv.quiet {pins:List (Addr × Obj)} {σ:St} {H:Hp} {s:Shared} (I:Inv X pins σ H s):interactive X.env=false:=by simp [interactive,I.ok.kind]
def zm5 (te:TE):TS:=fun D σ H=>te σ H fun _ H1=>D.nx σ H1
theorem zeP (he:PE X e te) (hs:swapsWith e none pos.line X.env=pure false:=by rfl):PS X (.Expr e pos) (zm5 te):=by
 with_unfolding_all
  intro pins s σ H D I h
  exact wpAny_Expr_any (thn (he pins s σ H _ I h) fun v s1 ⟨x,H1,I1,r1,q1⟩=>⟨σ,H1,I1,q1⟩) I.quiet hs
def tRet (te:TE):TS:=fun D σ H=>te σ H D.rt
theorem zat (he:PE X e te):PS X (.Return (some e) pos) (tRet te):=by
 with_unfolding_all
  intro pins s σ H D I h
  exact wpAny_Return_some (thn (he pins s σ H _ I h) fun v s1 ⟨x,H1,I1,r1,q1⟩=>⟨x,σ,H1,I1,r1,q1⟩)
def tIfS (c:TT) (t u:TS):TS:=fun D σ H=>c σ H fun b H1=>if b=true then t D σ H1 else u D σ H1
theorem zcf {c:Expr} {a b:List Stmt} {tc:TT} (hc:PT X c tc) (ha:PSs X a t) (hb:PSs X b u):PS X (.If c a b pos) (tIfS tc t u):=by
 with_unfolding_all
  intro pins s σ H D I h
  refine wpAny_If (thn (hc pins s σ H _ I h) fun d s1 ⟨H1,I1,q1⟩=>?_)
  cases d with
  | true=>exact ha pins s1 σ H1 D I1 q1
  | false=>exact hb pins s1 σ H1 D I1 q1
def zl2:TS:=fun _ _ _=>False
theorem zjq:PS X st zl2:=by
 with_unfolding_all
  exact fun _ _ _ _ _ _ h=>h.elim
end
abbrev TG:=V→St→Hp→(St→Hp→Prop)→Prop
abbrev TGs:=List V→St→Hp→(St→Hp→Prop)→Prop
def PG (X:Cx) (target:Expr) (t:TG):Prop:=
 ∀(pins:List (Addr × Obj)) (s:Shared) (σ:St) (H:Hp) (v:V) (u:Value) (Q:St→Hp→Prop),Inv X pins σ H s→RelV v u→t v σ H Q→
  wpAny (model X.prog X.w) X.A (assign target X.env u) (fun _ s'=>∃ σ' H',Inv X pins σ' H' s'∧Q σ' H') X.xe s
def PGs (X:Cx) (ts:List Expr) (t:TGs):Prop:=
 ∀(pins:List (Addr × Obj)) (s:Shared) (σ:St) (H:Hp) (vs:List V) (us:List Value) (Q:St→Hp→Prop),Inv X pins σ H s→Vals vs us→t vs σ H Q→
  wpAny (model X.prog X.w) X.A (assignInOrder ((assignEach ts X.env).map (·.2)) us) (fun _ s'=>∃ σ' H',Inv X pins σ' H' s'∧Q σ' H') X.xe s
abbrev TIp:=V→V→Hp→VK→Prop
def PIp (X:Cx) (op:Operator) (t:TIp):Prop:=
 ∀(pins:List (Addr × Obj)) (s:Shared) (σ:St) (H:Hp) (x y:V) (v u:Value) (Q:VK),Inv X pins σ H s→RelV x v→RelV y u→t x y H Q→
  wpAny (model X.prog X.w) X.A (inplaceOp op v u) (EP X pins σ Q) X.xe s
section
variable {X:Cx} {pos:Pos}
def zeQ (i:Nat):TG:=fun v σ H Q=>Q (σ.set i (some v)) H
theorem zaO {i:Nat} {x:Str} (hN:X.N.Nodup) (hi:X.N[i]?=some x) (hx:Loc X.env.scope x) (hf:X.fn x=true∨X.env.scope.names.lookup x=some .local:=by first | exact .inl rfl | exact .inr rfl | assumption):PG X (.Name x pos) (zeQ i):=by
 intro pins s σ H v u Q I r h
 exact wpAny_assign_Name (zeM I hN hi hx r (fun s' I'=>⟨_,H,I',h⟩) hf)
def gNil:TGs:=fun vs σ H Q=>vs=[]∧Q σ H
def zkZ (t:TG) (u:TGs):TGs:=fun vs σ H Q=>∃v r,vs=v::r∧t v σ H fun σ' H'=>u r σ' H' Q
theorem zcr:PGs X [] gNil:=by
 intro pins s σ H vs us Q I r h
 obtain ⟨e,h⟩:=h
 subst e
 cases r
 exact assignInOrder_nil ⟨σ,H,I,h⟩
theorem zaT {e:Expr} {es:List Expr} {t:TG} {u:TGs} (h1:PG X e t) (h2:PGs X es u)
  (hs:(assignEach (e::es) X.env).map (·.2)=assign e X.env::(assignEach es X.env).map (·.2):=by rfl):PGs X (e::es) (zkZ t u):=by
 intro pins s σ H vs us Q I r h
 obtain ⟨v,vr,e1,h⟩:=h
 subst e1
 cases r with
 | cons r rr=>
   rw [hs]
   refine assignInOrder_cons (thn (h1 pins s σ H _ _ _ I r h) fun _ s1 ⟨σ1,H1,I1,q1⟩=>?_)
   exact h2 pins s1 σ1 H1 _ _ Q I1 rr q1
def gTup (K:PySem.W.Frag) (n:Nat) (t:TGs):TG:=fun v σ H Q=>∃a xs,v=.ref a∧SqT K H a xs∧xs.length=n∧t xs σ H Q
theorem zdv {es:List Expr} {k:Nat} {t:TGs} {n:Nat} (hc:X.calm=true) (h:PGs X es t)
  (hn:(assignEach es X.env).length=n:=by rfl) (hst:(assignEach es X.env).findIdx? (·.1)=none:=by rfl):PG X (.Tuple es k pos) (gTup X.K n t):=by
 intro pins s σ H v u Q I r hw
 obtain ⟨a,xs,e1,hq,hl,hw⟩:=hw
 subst e1
 cases r
 obtain ⟨its,rv,ht,hz⟩:=I.tuple hq
 refine assign_Tuple_tuple (I.ok.hd hc) ht (by simp [hn,←hl,rv.length]) hst fun h' hx=>?_
 have I1:Inv X pins σ H { s with heap:=h' }:=I.kept (t':=s.toks) fun b o e=>hx b o (Nat.ne_of_lt (Heap.lt_size e)) e
 exact h pins _ σ H xs _ Q I1 (by simpa using rv) hw
def tAsg (te:TE) (g:TG):TS:=fun D σ H=>te σ H fun x H1=>g x σ H1 D.nx
theorem zan {i:Nat} {x:Str} {e:Expr} {te:TE} {pos':Pos} (hN:X.N.Nodup) (hi:X.N[i]?=some x) (hx:Loc X.env.scope x) (he:PE X e te) (hs:swapsWith e (some (.Name x pos')) pos.line X.env=pure false:=by rfl) (hf:X.fn x=true∨X.env.scope.names.lookup x=some .local:=by first | exact .inl rfl | exact .inr rfl | assumption):
  PS X (.Assign [.Name x pos'] e pos) (tAsg te (zeQ i)):=by
 with_unfolding_all
  intro pins s σ H D I h
  refine wpAny_Assign_Name (thn (he pins s σ H _ I h) fun v s1 ⟨y,H1,I1,r1,q1⟩=>?_) hs
  exact zeM I1 hN hi hx r1 (fun s2 I2=>⟨_,H1,I2,q1⟩) hf
def tAug (i:Nat) (te:TE) (ti:TIp):TS:=fun D σ H=>∃x,σ[i]?=some (some x)∧te σ H fun y H1=>ti x y H1 fun z H2=>D.nx (σ.set i (some z)) H2
theorem zl3 {i:Nat} {x:Str} {e:Expr} {te:TE} {op:Operator} {ti:TIp} {pos':Pos} (hN:X.N.Nodup) (hi:X.N[i]?=some x) (hx:Loc X.env.scope x) (he:PE X e te) (ho:PIp X op ti) (hf:X.fn x=true∨X.env.scope.names.lookup x=some .local:=by first | exact .inl rfl | exact .inr rfl | assumption):
  PS X (.AugAssign (.Name x pos') op e pos) (tAug i te ti):=by
 with_unfolding_all
  intro pins s σ H D I h
  obtain ⟨v,e1,h⟩:=h
  obtain ⟨m,hn,hl⟩:=I.loc
  have vis:Vis X.env.scope x:=by rcases hx with k | k;exact .inl k;exact .inr (.inl k)
  obtain ⟨u,r,l⟩:=hl i x v hi e1 vis
  refine wpAny_AugAssign_Name ?_
  have go:wpAny (model X.prog X.w) X.A (eval e X.env) (fun w s₂=>wpAny (model X.prog X.w) X.A (inplaceOp op u w) (fun r s₃=>wpAny (model X.prog X.w) X.A (storeName X.env x r) (fun _=>SP X pins D .next) X.xe s₃) X.xe s₂) X.xe s:=by
   refine thn (he pins s σ H _ I h) fun w s1 ⟨y,H1,I1,r1,q1⟩=>?_
   refine thn (ho pins s1 σ H1 v y u w _ I1 r r1 q1) fun z s2 ⟨zv,H2,I2,r2,q2⟩=>?_
   exact zeM I2 hN hi hx r2 (fun s3 I3=>⟨_,H2,I3,q2⟩) hf
  rcases l with ⟨hk,hm⟩ | ⟨hk,c,hc,hcell⟩
  ·exact wpAny_loadName_local I.ok.kind hk hn hm go
  ·rcases hk with hk | hk
   ·exact wpAny_loadName_cell I.ok.kind hk hc hcell go
   ·rcases hx with k | k
    ·have:X.env.scope.names.lookup x=some .free:=hk
     rw [k] at this;cases this
    ·have:X.env.scope.names.lookup x=some .free:=hk
     rw [k] at this;cases this
def ipI (f:Int→Int→Int):TIp:=fun x y H Q=>∃i j,x=.int i∧y=.int j∧Q (.int (f i j)) H
theorem zl4:PIp X .Add (ipI fun i j=>i+j):=by
 intro pins s σ H x y v u Q I r1 r2 h
 obtain ⟨i,j,e1,e2,q⟩:=h
 subst e1;subst e2
 obtain ⟨t,rfl⟩:=r1
 obtain ⟨t',rfl⟩:=r2
 exact iadd_int ⟨.int _,H,I.tok _,⟨_,rfl⟩,q⟩
end
section
variable {X:Cx} {pos:Pos}
def zkq (c:TT) (tb:TS):TS:=fun D σ H=>∃W:Nat→St→Hp→Prop,(∃m,W m σ H)∧∀m σ H,W m σ H→
 c σ H fun b H1=>if b=true then ∃N:St→Hp→Prop,(∀ σ' H',N σ' H'→∃m',m'<m∧W m' σ' H')∧tb { D with nx:=N,ct:=N,bk:=D.nx } σ H1 else D.nx σ H1
theorem zgO {c:Expr} {body:List Stmt} {tc:TT} {tb:TS} (hp:PassesOwn (model X.prog X.w) X.A X.env X.xe) (hc:PT X c tc) (hb:PSs X body tb):PS X (.While c body [] pos) (zkq tc tb):=by
 with_unfolding_all
  intro pins s σ H D I h
  obtain ⟨W,⟨m0,w0⟩,turn⟩:=h
  refine wpAny_While (codeAny_whileLoop (fun n s'=>∃ σ' H',Inv X pins σ' H' s'∧W n σ' H') ?_ m0 ⟨σ,H,I,w0⟩)
  rintro n s1 ⟨σ1,H1,I1,w1⟩
  refine wpAny_passesOwn hp (thn (hc pins s1 σ1 H1 _ I1 (turn n σ1 H1 w1)) fun b s2 ⟨H2,I2,q2⟩=>?_)
  cases b with
  | true=>
    obtain ⟨N,hN,q2⟩:=q2
    rw [if_pos rfl]
    refine wpAny_passesOwn hp (thn (hb pins s2 σ1 H2 _ I2 q2) fun f s3 q3=>?_)
    cases f with
    | next=>
      obtain ⟨σ3,H3,I3,n3⟩:=q3
      obtain ⟨m',hm,w3⟩:=hN σ3 H3 n3
      exact ⟨m',hm,σ3,H3,I3,w3⟩
    | cont=>
      obtain ⟨σ3,H3,I3,n3⟩:=q3
      obtain ⟨m',hm,w3⟩:=hN σ3 H3 n3
      exact ⟨m',hm,σ3,H3,I3,w3⟩
    | brk=>exact q3
    | ret v=>exact q3
  | false=>
    rw [if_neg Bool.false_ne_true]
    exact wpAny_execs_nil ⟨σ1,H2,I2,q2⟩
end
structure It where
 go:Nat→Hp→Prop
 yld:Nat→Hp→V→Hp→Prop
 stop:Nat→Hp→Prop
def FpOk (X:Cx) (pins:List (Addr × Obj)) (H:Hp) (b:Addr):Prop:=
 H b=none∧b≠X.env.locals∧b∉X.fs∧(b∈X.ex∨X.s₀.heap.objs.size≤b)∧(∀x c,X.env.cells.lookup x=some c→c≠b)∧∀p∈X.pn++pins,p.1≠b
theorem Inv.fpOk {X:Cx} {pins:List (Addr × Obj)} {σ:St} {H H':Hp} {s:Shared} {b:Addr} (I:Inv X pins σ H s) (hb:s.heap.objs.size≤b) (hn:H' b=none):FpOk X pins H' b:=by
 refine ⟨hn,Nat.ne_of_gt (Nat.lt_of_lt_of_le I.lt hb),I.nofs hb,.inr (Nat.le_trans I.sz hb),fun x c e z=>?_,fun p hp z=>?_⟩
 ·obtain ⟨v,q⟩:=I.cell x c e
  exact absurd (Nat.lt_of_lt_of_le q.lt (by rw [z];exact hb)) (Nat.lt_irrefl _)
 ·exact absurd (Nat.lt_of_lt_of_le (Heap.lt_size (I.pin p hp).1) (by rw [z];exact hb)) (Nat.lt_irrefl _)
structure Turn (P:Program) (w:World) (K:PySem.W.Frag) (tg:Expr) (J:It) (fp:List Addr) (it:Addr) (tn:Nat→Heap→Prop):Prop where
 mem:it∈fp
 obj:∀i h,tn i h→∀b∈fp,∃o,h.get? b=some o∧∀v,o.data≠.cell v
 keep:∀i h h',tn i h→(∀b∈fp,∀o,h.get? b=some o→h'.get? b=some o)→tn i h'
 item:∀(X:Cx),X.prog=P→X.w=w→X.K=K→X.calm=true→∀(i:Nat) (pins:List (Addr × Obj)) (s:Shared) (σ:St) (H:Hp) (E:Value→Shared→Prop),Inv X pins σ H s→(∀b∈fp,FpOk X pins H b)→tn i s.heap→J.go i H→
  wpAny (model P w) X.A (pyNext (.ref it)) (fun r s1=>∃u,r=some u∧
   wpAny (model P w) X.A (letOwnedTupleGo tg (.ref it) u) (fun _ s2=>∃x H',Inv X pins σ H' s2∧RelV x u∧J.yld i H x H'∧tn (i+1) s2.heap∧∀b∈fp,H' b=none) E s1) E s
 done:∀(X:Cx),X.prog=P→X.w=w→X.K=K→X.calm=true→∀(i:Nat) (pins:List (Addr × Obj)) (s:Shared) (σ:St) (H:Hp) (E:Value→Shared→Prop),Inv X pins σ H s→(∀b∈fp,FpOk X pins H b)→tn i s.heap→J.stop i H→
  wpAny (model P w) X.A (pyNext (.ref it)) (fun r s1=>r=none∧Inv X pins σ H s1) E s
 self:∀(A:Around) (i:Nat) (s:Shared) (Q:Value→Shared→Prop) (E:Value→Shared→Prop),tn i s.heap→Q (.ref it) s→wpAny (model P w) A (pyIter (.ref it)) Q E s
abbrev TI:=St→Hp→(It→Hp→Prop)→Prop
def PIE (X:Cx) (pins:List (Addr × Obj)) (σ:St) (tg:Expr) (R:It→Hp→Prop) (itv:Value) (s2:Shared):Prop:=
 ∃(it:Addr) (fp:List Addr) (tn:Nat→Heap→Prop) (J:It) (H':Hp),itv=.ref it∧Inv X pins σ H' s2∧Turn X.prog X.w X.K tg J fp it tn∧tn 0 s2.heap∧(∀b∈fp,FpOk X pins H' b)∧R J H'
def PI (X:Cx) (tg iter:Expr) (wi:TI):Prop:=
 ∀(pins:List (Addr × Obj)) (s:Shared) (σ:St) (H:Hp) (R:It→Hp→Prop),Inv X pins σ H s→wi σ H R→
  wpAny (model X.prog X.w) X.A (eval iter X.env) (fun v s1=>wpAny (model X.prog X.w) X.A (pyIter v) (PIE X pins σ tg R) X.xe s1) X.xe s
theorem zjr {M:Model} {A:Around} {E:Value→Shared→Prop} {s:Shared} {tg:Expr} {it:Addr} {u:Value} {o:Obj} {n:String} {vs:Array Value} {Q:Unit→Shared→Prop} (ho:s.heap.get? it=some o) (hc:o.cls=.type n) (hd:o.data=.fields vs)
  (hn:["enumerate","zip","dict_itemiterator","dict_reverseitemiterator","odict_iterator","itertools.zip_longest","itertools.pairwise"].contains n=false) (hQ:Q () s):wpAny M A (letOwnedTupleGo tg (.ref it) u) Q E s:=by
 unfold letOwnedTupleGo
 cases tg<;>first
  | exact wpAny_pure hQ
  | (cases u<;>first
      | exact wpAny_pure hQ
      | (refine wpAny_bind (wpAny_load ho ?_)
         rw [hc,hd]
         show wpAny M A (if (["enumerate","zip","dict_itemiterator","dict_reverseitemiterator","odict_iterator","itertools.zip_longest","itertools.pairwise"].contains n&&vs[0]?==some (rawInt _))=true then _ else _) Q E s
         rw [if_neg (by intro h;rw [hn,Bool.false_and] at h;cases h)]
         exact wpAny_pure hQ))
def Itl (K:PySem.W.Frag) (a:Addr):It:=
 ⟨fun i H=>∃xs x,SqL K H a xs∧xs[i]?=some x,fun i H x H'=>H'=H∧∀xs,SqL K H a xs→xs[i]?=some x,fun i H=>∃xs,SqL K H a xs∧xs.length≤i⟩
def Itt (K:PySem.W.Frag) (a:Addr):It:=
 ⟨fun i H=>∃xs x,SqT K H a xs∧xs[i]?=some x,fun i H x H'=>H'=H∧∀xs,SqT K H a xs→xs[i]?=some x,fun i H=>∃xs,SqT K H a xs∧xs.length≤i⟩
def Itr (lo:Int) (n:Nat):It:=⟨fun i _=>i<n,fun i H x H'=>H'=H∧x=.int (lo+i),fun i _=>n≤i⟩
theorem zh0 {P:Program} {w:World} {K:PySem.W.Frag} {tg:Expr} (a it:Addr):Turn P w K tg (Itl K a) [it] it (fun i h=>h.IsListIter it a i) where
 mem:=by simp
 obj:=fun i h st b hb=>by
  have e:b=it:=by simpa using hb
  subst e
  obtain ⟨o,e,c,d⟩:=st
  exact ⟨o,e,fun v z=>by rw [d] at z;cases z⟩
 keep:=fun i h h' st k=>st.at fun o e=>k it (by simp) o e
 item:=by
  intro X hP hw hK hc i pins s σ H E I hf st hg
  subst hP hw hK
  obtain ⟨xs,x,hq,hx⟩:=hg
  obtain ⟨its,rv,p,hz⟩:=I.list hq
  obtain ⟨u,hu,ru⟩:=rv.get hx
  obtain ⟨f0,f1,f2,f3,f4,f5⟩:=hf it (by simp)
  refine wpAny_pyNext_list_item st p.isList (x:=u) (by simpa using hu) fun h' st' sb=>?_
  have I1:Inv X pins σ H { s with heap:=h' }:=I.turned (t':=s.toks) (fun b o hb e=>(sb.2 b hb).trans e) f0 f1 f3 f4 f5
  obtain ⟨o,e,c,d⟩:=id st'
  exact ⟨u,rfl,zjr (s := { s with heap:=h' }) e c d (by decide) ⟨x,H,I1,ru,⟨rfl,fun ys hy=>by rw [I.list_inj hy hq];exact hx⟩,st',fun b hb=>(hf b hb).1⟩⟩
 done:=by
  intro X hP hw hK hc i pins s σ H E I hf st hg
  subst hP hw hK
  obtain ⟨xs,hq,hx⟩:=hg
  obtain ⟨its,rv,p,hz⟩:=I.list hq
  obtain ⟨f0,f1,f2,f3,f4,f5⟩:=hf it (by simp)
  have hl:=rv.length
  exact wpAny_pyNext_list_end (I.ok.hd hc) st p.isList (by simp;omega) fun h' eb=>⟨rfl,I.turned (t':=s.toks) (fun b o hb e=>eb b o hb e) f0 f1 f3 f4 f5⟩
 self:=fun _ _ _ _ _ st h=>wpAny_pyIter_listiter st h
theorem zhw {P:Program} {w:World} {K:PySem.W.Frag} {tg:Expr} (a it:Addr):Turn P w K tg (Itt K a) [it] it (fun i h=>h.IsTupleIter it a i) where
 mem:=by simp
 obj:=fun i h st b hb=>by
  have e:b=it:=by simpa using hb
  subst e
  obtain ⟨o,e,c,d⟩:=st
  exact ⟨o,e,fun v z=>by rw [d] at z;cases z⟩
 keep:=fun i h h' st k=>st.at fun o e=>k it (by simp) o e
 item:=by
  intro X hP hw hK hc i pins s σ H E I hf st hg
  subst hP hw hK
  obtain ⟨xs,x,hq,hx⟩:=hg
  obtain ⟨its,rv,p,hz⟩:=I.tuple hq
  obtain ⟨u,hu,ru⟩:=rv.get hx
  obtain ⟨f0,f1,f2,f3,f4,f5⟩:=hf it (by simp)
  refine wpAny_pyNext_tuple_item st (show s.heap.IsTuple a its.toArray from p) (x:=u) (by simpa using hu) fun h' st' sb=>?_
  have I1:Inv X pins σ H { s with heap:=h' }:=I.turned (t':=s.toks) (fun b o hb e=>(sb.2 b hb).trans e) f0 f1 f3 f4 f5
  obtain ⟨o,e,c,d⟩:=id st'
  exact ⟨u,rfl,zjr (s := { s with heap:=h' }) e c d (by decide) ⟨x,H,I1,ru,⟨rfl,fun ys hy=>by rw [I.tuple_inj hy hq];exact hx⟩,st',fun b hb=>(hf b hb).1⟩⟩
 done:=by
  intro X hP hw hK hc i pins s σ H E I hf st hg
  subst hP hw hK
  obtain ⟨xs,hq,hx⟩:=hg
  obtain ⟨its,rv,p,hz⟩:=I.tuple hq
  obtain ⟨f0,f1,f2,f3,f4,f5⟩:=hf it (by simp)
  have hl:=rv.length
  exact wpAny_pyNext_tuple_end (I.ok.hd hc) st (show s.heap.IsTuple a its.toArray from p) (by simp;omega) fun h' eb=>⟨rfl,I.turned (t':=s.toks) (fun b o hb e=>eb b o hb e) f0 f1 f3 f4 f5⟩
 self:=fun _ _ _ _ _ st h=>wpAny_pyIter_tupleiter st h
theorem zhx {P:Program} {w:World} {K:PySem.W.Frag} {tg:Expr} (it:Addr) (lo:Int) (n:Nat):Turn P w K tg (Itr lo n) [it] it (fun i h=>IsRangeIter h it (lo+(i:Nat)*1) ((n:Int)-(i:Nat)) 1) where
 mem:=by simp
 obj:=fun i h st b hb=>by
  have e:b=it:=by simpa using hb
  subst e
  exact ⟨_,st,fun v z=>by
   have z':Data.fields _=Data.cell v:=z
   cases z'⟩
 keep:=fun i h h' st k=>k it (by simp) _ st
 item:=by
  intro X hP hw hK hc i pins s σ H E I hf st hg
  subst hP hw hK
  obtain ⟨f0,f1,f2,f3,f4,f5⟩:=hf it (by simp)
  have W:=Walks.range (prog:=X.prog) (w:=X.w) (I.ok.hd hc) it lo 1 n
  refine W.item i s _ _ hg st fun v h' tk hv st' kk=>?_
  obtain ⟨t,rfl⟩:=hv
  have I1:Inv X pins σ H { s with heap:=h',toks:=tk }:=I.turned (fun b o hb e=>kk b o (by simpa using hb) e) f0 f1 f3 f4 f5
  refine ⟨_,rfl,zjr (s := { s with heap:=h',toks:=tk }) (n := "range_iterator") st' rfl rfl (by decide) ⟨.int (lo+i),H,I1,⟨t,?_⟩,⟨rfl,rfl⟩,st',fun b hb=>(hf b hb).1⟩⟩
  rw [Int.mul_one]
 done:=by
  intro X hP hw hK hc i pins s σ H E I hf st hg
  subst hP hw hK
  obtain ⟨f0,f1,f2,f3,f4,f5⟩:=hf it (by simp)
  exact wpAny_pyNext_range_end (I.ok.hd hc) st (by have:n≤i:=hg;omega) fun h' eb=>⟨rfl,I.turned (t':=s.toks) (fun b o hb e=>eb b o hb e) f0 f1 f3 f4 f5⟩
 self:=fun _ _ _ _ _ st h=>wpAny_pyIter_rangeiter st h
end L2
namespace L2
open PySem PySem.Spec PyProof.Rows
section
variable {X:Cx} {tg:Expr}
def zl5 (K:PySem.W.Frag) (tl:TE):TI:=fun σ H R=>tl σ H fun x H1=>∃a,x=.ref a∧(∃xs,SqL K H1 a xs)∧R (Itl K a) H1
def iTup (K:PySem.W.Frag) (tl:TE):TI:=fun σ H R=>tl σ H fun x H1=>∃a,x=.ref a∧(∃xs,SqT K H1 a xs)∧R (Itt K a) H1
theorem za6 {l:Expr} {tl:TE} (hl:PE X l tl):PI X tg l (zl5 X.K tl):=by
 with_unfolding_all
  intro pins s σ H R I h
  refine thn (hl pins s σ H _ I h) fun v s1 ⟨x,H1,I1,r1,q1⟩=>?_
  obtain ⟨a,e,⟨xs,hq⟩,q⟩:=q1
  subst e
  cases r1
  obtain ⟨its,rv,p,hz⟩:=I1.list hq
  refine wpAny_pyIter_list p.isList ?_
  refine ⟨s1.heap.objs.size,[s1.heap.objs.size],_,_,H1,rfl,I1.kept (t':=s1.toks) fun b o e=>Heap.get?_push_of_some _ e,zh0 a _,⟨_,Heap.get?_push_size _ rfl,rfl,rfl⟩,fun b hb=>?_,q⟩
  have e:b=s1.heap.objs.size:=by simpa using hb
  subst e
  exact I1.fpOk (Nat.le_refl _) (I1.hok.fresh (Nat.le_refl _))
theorem zl6 {l:Expr} {tl:TE} (hl:PE X l tl):PI X tg l (iTup X.K tl):=by
 with_unfolding_all
  intro pins s σ H R I h
  refine thn (hl pins s σ H _ I h) fun v s1 ⟨x,H1,I1,r1,q1⟩=>?_
  obtain ⟨a,e,⟨xs,hq⟩,q⟩:=q1
  subst e
  cases r1
  obtain ⟨its,rv,p,hz⟩:=I1.tuple hq
  refine wpAny_pyIter_tuple (show s1.heap.IsTuple a its.toArray from p) ?_
  refine ⟨s1.heap.objs.size,[s1.heap.objs.size],_,_,H1,rfl,I1.kept (t':=s1.toks) fun b o e=>Heap.get?_push_of_some _ e,zhw a _,⟨_,Heap.get?_push_size _ rfl,rfl,rfl⟩,fun b hb=>?_,q⟩
  have e:b=s1.heap.objs.size:=by simpa using hb
  subst e
  exact I1.fpOk (Nat.le_refl _) (I1.hok.fresh (Nat.le_refl _))
theorem zjs {pins:List (Addr × Obj)} {σ:St} {H:Hp} {s:Shared} {R:It→Hp→Prop} {E:Value→Shared→Prop} {lo hi:Int} {t u v:Tok} {tk:Nat} (I:Inv X pins σ H s) (h1 : -(2 ^ 62)≤lo) (h2:lo<2 ^ 62) (h3 : -(2 ^ 62)≤hi) (h4:hi<2 ^ 62)
  (q:R (Itr lo (hi-lo).toNat) H):wpAny (model X.prog X.w) X.A (pyIter (.ref s.heap.objs.size)) (PIE X pins σ tg R) E { s with heap:=s.heap.push { cls:=.type "range",data:=.fields #[.int lo t,.int hi u,.int 1 v] },toks:=tk }:=by
 refine wpAny_pyIter_range (IsRange.new ..) (small_one h1 h2 h3 h4) ?_
 have I1:Inv X pins σ H { s with heap:=s.heap.push { cls:=.type "range",data:=.fields #[.int lo t,.int hi u,.int 1 v] },toks:=tk }:=I.kept fun b o e=>Heap.get?_push_of_some _ e
 refine ⟨(s.heap.push { cls:=.type "range",data:=.fields #[.int lo t,.int hi u,.int 1 v] }).objs.size,[(s.heap.push { cls:=.type "range",data:=.fields #[.int lo t,.int hi u,.int 1 v] }).objs.size],_,_,H,rfl,
  I1.kept (t':=tk) fun b o e=>Heap.get?_push_of_some _ e,zhx _ lo (hi-lo).toNat,?_,fun b hb=>?_,q⟩
 ·have e1:lo+((0:Nat):Int)*1=lo:=by simp
  have e2:(((hi-lo).toNat:Nat):Int)-((0:Nat):Int)=Builtin.Range.rangeSize lo hi 1:=by rw [rangeSize_one];split<;>omega
  show IsRangeIter _ _ (lo+((0:Nat):Int)*1) ((((hi-lo).toNat:Nat):Int)-((0:Nat):Int)) 1
  rw [e1,e2]
  exact Heap.get?_push_size _ rfl
 ·have e:b=(s.heap.push { cls:=.type "range",data:=.fields #[.int lo t,.int hi u,.int 1 v] }).objs.size:=by simpa using hb
  subst e
  exact I1.fpOk (Nat.le_refl _) (I1.hok.fresh (Nat.le_refl _))
def zm6 (ta:TA):TI:=fun σ H R=>ta σ H fun vs H1=>∃j:Int,vs=[.int j] ∧ -(2 ^ 62)≤j∧j<2 ^ 62∧R (Itr 0 j.toNat) H1
theorem zh1 {a:Expr} {ta:TA} {p pos:Pos} (hg:Gl X "range") (hm:X.mg "range" = none) (ha:PA X [a] ta) (hs:starEach [a] X.env=[(false,eval a X.env)]:=by rfl):PI X tg (.Call (.Name "range" p) [a] [] pos) (zm6 ta):=by
 with_unfolding_all
  intro pins s σ H R I h
  refine Call_ (zdu I hg hm boot_range (PyProof.Rows.callWith_type1 (thn (ha pos pins s σ H _ I h) fun us s1 ⟨vs,H1,I1,r1,q1⟩=>?_) hs rfl))
  obtain ⟨j,e,q1,q2,q⟩:=q1
  subst e
  cases r1 with
  | cons r rr=>
    cases rr
    obtain ⟨t,rfl⟩:=r
    exact call_range_1 (zjs I1 (by omega) (by omega) q1 q2 (by simpa using q))
def tFor (wi:TI) (g:TG) (tb:TS):TS:=fun D σ H=>wi σ H fun J H1=>∃W:Nat→Nat→St→Hp→Prop,(∃m,W 0 m σ H1)∧∀i m σ H,W i m σ H→
 (J.stop i H∧D.nx σ H)∨(J.go i H∧∃N:St→Hp→Prop,(∀ σ' H',N σ' H'→∃m',m'<m∧W (i+1) m' σ' H')∧∀x H',J.yld i H x H'→g x σ H' fun σ2 H2=>tb { D with nx:=N,ct:=N,bk:=D.nx } σ2 H2)
def zdT (fp:List Addr) (h:Heap):List (Addr × Obj):=fp.filterMap fun b=>(h.get? b).map fun o=>(b,o)
theorem zbw {fp:List Addr} {h:Heap} {b:Addr} {o:Obj} (hb:b∈fp) (e:h.get? b=some o):(b,o)∈zdT fp h:=List.mem_filterMap.mpr ⟨b,hb,by rw [e];rfl⟩
theorem zh2 {fp:List Addr} {h:Heap} {p:Addr × Obj} (hp:p∈zdT fp h):p.1∈fp∧h.get? p.1=some p.2:=by
 obtain ⟨b,hb,e⟩:=List.mem_filterMap.mp hp
 cases q:h.get? b with
 | none=>rw [q] at e;cases e
 | some o=>
   rw [q] at e
   have e':(b,o)=p:=Option.some.inj e
   subst e'
   exact ⟨hb,q⟩
theorem Inv.pinned {pins:List (Addr × Obj)} {σ:St} {H:Hp} {s:Shared} {fp:List Addr} (I:Inv X pins σ H s) (hf:∀b∈fp,FpOk X pins H b) (ho:∀b∈fp,∃o,s.heap.get? b=some o∧∀v,o.data≠.cell v):Inv X (pins++zdT fp s.heap) σ H s:=
 I.pins_of fun p hp=>(List.mem_append.mp hp).elim (fun z=>I.pin p (List.mem_append_right _ z)) fun z=>by
  obtain ⟨hb,e⟩:=zh2 z
  obtain ⟨f0,f1,f2,_⟩:=hf p.1 hb
  obtain ⟨o,e',d⟩:=ho p.1 hb
  rw [e] at e';cases e'
  exact ⟨e,f0,f1,f2,d⟩
theorem Inv.unpinned {pins pl:List (Addr × Obj)} {σ:St} {H:Hp} {s:Shared} (I:Inv X (pins++pl) σ H s):Inv X pins σ H s:=I.pins_of fun p hp=>I.pin p (List.mem_append_right _ (List.mem_append_left _ hp))
theorem zcp {iter:Expr} {body:List Stmt} {wi:TI} {g:TG} {tb:TS} {pos:Pos} (hp:PassesOwn (model X.prog X.w) X.A X.env X.xe) (hc:X.calm=true) (hi:PI X tg iter wi) (hg:PG X tg g) (hb:PSs X body tb)
  (hs:∀x,foldedSetIterable iter X.env x=pure x:=by intro _;rfl):PS X (.For tg iter body [] pos) (tFor wi g tb):=by
 with_unfolding_all
  intro pins s σ H D I h
  refine wpAny_For (thn (hi pins s σ H _ I h) fun v s1 h1=>thn h1 fun itv s2 h2=>?_) hs
  obtain ⟨it,fp,tn,J,H2,e,I2,T,st2,f2,W,⟨m0,w0⟩,turn⟩:=h2
  subst e
  have stat:∀ {H':Hp},(∀b∈fp,H' b=none)→∀b∈fp,FpOk X pins H' b:=fun hn b hb=>⟨hn b hb,(f2 b hb).2⟩
  refine codeAny_forLoop_any (fun n s'=>∃i σ' H',Inv X pins σ' H' s'∧tn i s'.heap∧(∀b∈fp,H' b=none)∧W i n σ' H') ?_ m0 ⟨0,σ,H2,I2,st2,fun b hb=>(f2 b hb).1,w0⟩
  rintro n s3 ⟨i,σ3,H3,I3,st3,fr3,w3⟩
  rcases turn i n σ3 H3 w3 with ⟨stop,qn⟩ | ⟨go,N,hN,step⟩
  ·refine wpAny_passesOwn hp (thn (T.done X rfl rfl rfl hc i pins s3 σ3 H3 X.xe I3 (stat fr3) st3 stop) fun r s4 ⟨hr,I4⟩=>?_)
   subst hr
   exact wpAny_execs_nil ⟨σ3,H3,I4,qn⟩
  ·refine wpAny_passesOwn hp (thn (T.item X rfl rfl rfl hc i pins s3 σ3 H3 X.xe I3 (stat fr3) st3 go) fun r s4 ⟨u,hr,h4⟩=>?_)
   subst hr
   refine wpAny_passesOwn hp (thn h4 fun _ s5 ⟨x,H5,I5,r5,y5,st5,fr5⟩=>?_)
   have I5':=I5.pinned (stat fr5) (T.obj _ _ st5)
   refine wpAny_passesOwn hp (thn (hg _ s5 σ3 H5 x u _ I5' r5 (step x H5 y5)) fun _ s6 ⟨σ6,H6,I6,q6⟩=>?_)
   refine wpAny_passesOwn hp (thn (hb _ s6 σ6 H6 _ I6 q6) fun f s7 q7=>?_)
   have again:∀ {σ7:St} {H7:Hp},Inv X (pins++zdT fp s5.heap) σ7 H7 s7→N σ7 H7→∃m,m<n∧∃i σ' H',Inv X pins σ' H' s7∧tn i s7.heap∧(∀b∈fp,H' b=none)∧W i m σ' H':=fun {σ7 H7} I7 n7=>by
    obtain ⟨m',hm,w7⟩:=hN σ7 H7 n7
    refine ⟨m',hm,i+1,σ7,H7,I7.unpinned,T.keep _ _ _ st5 fun b hb o e=>(I7.pin (b,o) (List.mem_append_right _ (List.mem_append_right _ (zbw hb e)))).1,fun b hb=>?_,w7⟩
    obtain ⟨o,e,d⟩:=T.obj _ _ st5 b hb
    exact (I7.pin (b,o) (List.mem_append_right _ (List.mem_append_right _ (zbw hb e)))).2.1
   cases f with
   | next=>obtain ⟨σ7,H7,I7,n7⟩:=q7;exact again I7 n7
   | cont=>obtain ⟨σ7,H7,I7,n7⟩:=q7;exact again I7 n7
   | brk=>obtain ⟨σ7,H7,I7,q7⟩:=q7;exact ⟨σ7,H7,I7.unpinned,q7⟩
   | ret v=>obtain ⟨x7,σ7,H7,I7,r7,q7⟩:=q7;exact ⟨x7,σ7,H7,I7.unpinned,r7,q7⟩
end
theorem zb2 {K:PySem.W.Frag} {a:Addr} {xs:List V} {g:TG} {tb:TS} {D:Ends} {σ:St} {H:Hp} (Pv:Nat→St→Hp→Prop) (h0:Pv 0 σ H) (hl:∀i σ H,i≤xs.length→Pv i σ H→SqL K H a xs)
  (hs:∀i x σ H,xs[i]?=some x→Pv i σ H→g x σ H fun σ2 H2=>tb { D with nx:=Pv (i+1),ct:=Pv (i+1),bk:=D.nx } σ2 H2) (hd:∀ σ H,Pv xs.length σ H→D.nx σ H):
  ∃W:Nat→Nat→St→Hp→Prop,(∃m,W 0 m σ H)∧∀i m σ H,W i m σ H→
   ((Itl K a).stop i H∧D.nx σ H)∨((Itl K a).go i H∧∃N:St→Hp→Prop,(∀ σ' H',N σ' H'→∃m',m'<m∧W (i+1) m' σ' H')∧∀x H',(Itl K a).yld i H x H'→g x σ H' fun σ2 H2=>tb { D with nx:=N,ct:=N,bk:=D.nx } σ2 H2):=by
 refine ⟨fun i m σ H=>m=xs.length-i∧i≤xs.length∧Pv i σ H,⟨xs.length,by simp,Nat.zero_le _,h0⟩,?_⟩
 rintro i m σ H ⟨rfl,hi,p⟩
 have q:=hl i σ H hi p
 by_cases hlt:i<xs.length
 ·refine .inr ⟨⟨xs,xs[i],q,by simp [hlt]⟩,Pv (i+1),fun σ' H' p'=>⟨xs.length-(i+1),by omega,rfl,hlt,p'⟩,fun x H' y=>?_⟩
  obtain ⟨e,y⟩:=y
  subst e
  exact hs i x σ _ (y xs q) p
 ·have e:i=xs.length:=by omega
  subst e
  exact .inl ⟨⟨xs,q,Nat.le_refl _⟩,hd σ H p⟩
theorem zk0 {K:PySem.W.Frag} {a:Addr} {xs:List V} {g:TG} {tb:TS} {D:Ends} {σ:St} {H:Hp} (Pv:Nat→St→Hp→Prop) (h0:Pv 0 σ H) (hl:∀i σ H,i≤xs.length→Pv i σ H→SqT K H a xs)
  (hs:∀i x σ H,xs[i]?=some x→Pv i σ H→g x σ H fun σ2 H2=>tb { D with nx:=Pv (i+1),ct:=Pv (i+1),bk:=D.nx } σ2 H2) (hd:∀ σ H,Pv xs.length σ H→D.nx σ H):
  ∃W:Nat→Nat→St→Hp→Prop,(∃m,W 0 m σ H)∧∀i m σ H,W i m σ H→
   ((Itt K a).stop i H∧D.nx σ H)∨((Itt K a).go i H∧∃N:St→Hp→Prop,(∀ σ' H',N σ' H'→∃m',m'<m∧W (i+1) m' σ' H')∧∀x H',(Itt K a).yld i H x H'→g x σ H' fun σ2 H2=>tb { D with nx:=N,ct:=N,bk:=D.nx } σ2 H2):=by
 refine ⟨fun i m σ H=>m=xs.length-i∧i≤xs.length∧Pv i σ H,⟨xs.length,by simp,Nat.zero_le _,h0⟩,?_⟩
 rintro i m σ H ⟨rfl,hi,p⟩
 have q:=hl i σ H hi p
 by_cases hlt:i<xs.length
 ·refine .inr ⟨⟨xs,xs[i],q,by simp [hlt]⟩,Pv (i+1),fun σ' H' p'=>⟨xs.length-(i+1),by omega,rfl,hlt,p'⟩,fun x H' y=>?_⟩
  obtain ⟨e,y⟩:=y
  subst e
  exact hs i x σ _ (y xs q) p
 ·have e:i=xs.length:=by omega
  subst e
  exact .inl ⟨⟨xs,q,Nat.le_refl _⟩,hd σ H p⟩
theorem zh3 {lo:Int} {n:Nat} {g:TG} {tb:TS} {D:Ends} {σ:St} {H:Hp} (Pv:Nat→St→Hp→Prop) (h0:Pv 0 σ H)
  (hs:∀i σ H,i<n→Pv i σ H→g (.int (lo+i)) σ H fun σ2 H2=>tb { D with nx:=Pv (i+1),ct:=Pv (i+1),bk:=D.nx } σ2 H2) (hd:∀ σ H,Pv n σ H→D.nx σ H):
  ∃W:Nat→Nat→St→Hp→Prop,(∃m,W 0 m σ H)∧∀i m σ H,W i m σ H→
   ((Itr lo n).stop i H∧D.nx σ H)∨((Itr lo n).go i H∧∃N:St→Hp→Prop,(∀ σ' H',N σ' H'→∃m',m'<m∧W (i+1) m' σ' H')∧∀x H',(Itr lo n).yld i H x H'→g x σ H' fun σ2 H2=>tb { D with nx:=N,ct:=N,bk:=D.nx } σ2 H2):=by
 refine ⟨fun i m σ H=>m=n-i∧i≤n∧Pv i σ H,⟨n,by simp,Nat.zero_le _,h0⟩,?_⟩
 rintro i m σ H ⟨rfl,hi,p⟩
 by_cases hlt:i<n
 ·refine .inr ⟨hlt,Pv (i+1),fun σ' H' p'=>⟨n-(i+1),by omega,rfl,hlt,p'⟩,fun x H' y=>?_⟩
  obtain ⟨e,y⟩:=y
  subst e y
  exact hs i σ _ hlt p
 ·have e:i=n:=by omega
  subst e
  exact .inl ⟨Nat.le_refl _,hd σ H p⟩
theorem zgP {c:TT} {tb:TS} {D:Ends} {σ:St} {H:Hp} (Pv:St→Hp→Prop) (μ:St→Hp→Nat) (h0:Pv σ H)
  (hs:∀ σ H,Pv σ H→c σ H fun b H1=>if b=true then tb { D with nx:=fun σ' H'=>Pv σ' H' ∧ μ σ' H' < μ σ H,ct:=fun σ' H'=>Pv σ' H' ∧ μ σ' H' < μ σ H,bk:=D.nx } σ H1 else D.nx σ H1)
  (mono:∀ σ H Q Q',(∀b H1,Q b H1→Q' b H1)→c σ H Q→c σ H Q'):zkq c tb D σ H:=by
 refine ⟨fun m σ H=>m = μ σ H∧Pv σ H,⟨_,rfl,h0⟩,?_⟩
 rintro m σ H ⟨rfl,p⟩
 refine mono σ H _ _ (fun b H1 q=>?_) (hs σ H p)
 cases b with
 | true=>exact ⟨_,fun σ' H' ⟨p',l⟩=>⟨_,l,rfl,p'⟩,q⟩
 | false=>exact q
end L2
namespace L2
open PySem PySem.Spec PyProof.Rows
abbrev R2:=V→V→Hp→VK→Prop
def OpR (X:Cx) (f:Value→Value→Sem Value) (r:R2):Prop:=
 ∀(pins:List (Addr × Obj)) (s:Shared) (σ:St) (H:Hp) (x y:V) (v u:Value) (Q:VK),Inv X pins σ H s→RelV x v→RelV y u→r x y H Q→
  wpAny (model X.prog X.w) X.A (f v u) (EP X pins σ Q) X.xe s
def UnR (X:Cx) (f:Value→Sem Value) (r:V→Hp→VK→Prop):Prop:=
 ∀(pins:List (Addr × Obj)) (s:Shared) (σ:St) (H:Hp) (x:V) (v:Value) (Q:VK),Inv X pins σ H s→RelV x v→r x H Q→
  wpAny (model X.prog X.w) X.A (f v) (EP X pins σ Q) X.xe s
def zdU (X:Cx) (f:Value) (r:List V→Hp→VK→Prop):Prop:=
 ∀(pins:List (Addr × Obj)) (s:Shared) (σ:St) (H:Hp) (xs:List V) (us:List Value) (Q:VK),Inv X pins σ H s→Vals xs us→r xs H Q→
  wpAny (model X.prog X.w) X.A (call f us) (EP X pins σ Q) X.xe s
def tOp (r:R2) (ta tb:TE):TE:=fun σ H Q=>ta σ H fun x H1=>tb σ H1 fun y H2=>r x y H2 Q
def tUn (r:V→Hp→VK→Prop) (ta:TE):TE:=fun σ H Q=>ta σ H fun x H1=>r x H1 Q
def rI (C:Int→Int→Prop) (g:Int→Int→V):R2:=fun x y H Q=>∃i j,x=.int i∧y=.int j∧C i j∧Q (g i j) H
def rI0 (g:Int→Int→V):R2:=fun x y H Q=>∃i j,x=.int i∧y=.int j∧Q (g i j) H
def rU (g:Int→V):V→Hp→VK→Prop:=fun x H Q=>∃i,x=.int i∧Q (g i) H
section
variable {X:Cx} {a b c:Expr} {ta tb tc:TE} {pos:Pos}
theorem binT (ha:PE X a ta) (hb:PE X b tb) {pins:List (Addr × Obj)} {s:Shared} {σ:St} {H:Hp} {R:V→V→Hp→Prop} (I:Inv X pins σ H s)
  (h:ta σ H fun x H1=>tb σ H1 fun y H2=>R x y H2) {Q:Value→Shared→Prop} {f:Value→Value→Sem Value}
  (hf:∀v u s2 x y H2,Inv X pins σ H2 s2→RelV x v→RelV y u→R x y H2→wpAny (model X.prog X.w) X.A (f v u) Q X.xe s2):
  wpAny (model X.prog X.w) X.A (eval a X.env) (fun v s₁=>wpAny (model X.prog X.w) X.A (eval b X.env) (fun u s₂=>wpAny (model X.prog X.w) X.A (f v u) Q X.xe s₂) X.xe s₁) X.xe s:=by
 with_unfolding_all
  refine thn (ha pins s σ H _ I h) fun v s1 ⟨x,H1,I1,r1,q1⟩=>?_
  refine thn (hb pins s1 σ H1 _ I1 q1) fun u s2 ⟨y,H2,I2,r2,q2⟩=>?_
  exact hf v u s2 x y H2 I2 r1 r2 q2
theorem zai {op:Operator} {r:R2} (ho:OpR X (binaryOp op) r) (ha:PE X a ta) (hb:PE X b tb):PE X (.BinOp a op b pos) (tOp r ta tb):=by
 with_unfolding_all
  intro pins s σ H Q I h
  exact wpAny_BinOp (binT ha hb I h fun v u s2 x y H2 I2 rx ry q=>ho pins s2 σ H2 x y v u Q I2 rx ry q)
theorem zjt {op:UnaryOp} {r:V→Hp→VK→Prop} (ho:UnR X (unaryOp op) r) (ha:PE X a ta):PE X (.UnaryOp op a pos) (tUn r ta):=by
 with_unfolding_all
  intro pins s σ H Q I h
  exact UnaryOp_ (thn (ha pins s σ H _ I h) fun v s1 ⟨x,H1,I1,r1,q1⟩=>ho pins s1 σ H1 x v Q I1 r1 q1)
theorem opI {f:Value→Value→Sem Value} {C:Int→Int→Prop} {g:Int→Int→Int}
  (rule:∀(i j:Int) (t u:Tok) (s:Shared) (Q:Value→Shared→Prop) (E:Value→Shared→Prop),C i j→Q (.int (g i j) s.toks) { s with toks:=s.toks+1 }→wpAny (model X.prog X.w) X.A (f (.int i t) (.int j u)) Q E s):
  OpR X f (rI C fun i j=>.int (g i j)):=by
 intro pins s σ H x y v u Q I rx ry h
 obtain ⟨i,j,rfl,rfl,hc,q⟩:=h
 obtain ⟨t,rfl⟩:=rx
 obtain ⟨t',rfl⟩:=ry
 exact rule i j t t' s _ _ hc ⟨.int (g i j),H,I.tok _,⟨_,rfl⟩,q⟩
theorem opI0 {f:Value→Value→Sem Value} {g:Int→Int→Int}
  (rule:∀(i j:Int) (t u:Tok) (s:Shared) (Q:Value→Shared→Prop) (E:Value→Shared→Prop),Q (.int (g i j) s.toks) { s with toks:=s.toks+1 }→wpAny (model X.prog X.w) X.A (f (.int i t) (.int j u)) Q E s):
  OpR X f (rI0 fun i j=>.int (g i j)):=by
 intro pins s σ H x y v u Q I rx ry h
 obtain ⟨i,j,rfl,rfl,q⟩:=h
 obtain ⟨t,rfl⟩:=rx
 obtain ⟨t',rfl⟩:=ry
 exact rule i j t t' s _ _ ⟨.int (g i j),H,I.tok _,⟨_,rfl⟩,q⟩
theorem opB0 {f:Value→Value→Sem Value} {g:Int→Int→Bool}
  (rule:∀(i j:Int) (t u:Tok) (s:Shared) (Q:Value→Shared→Prop) (E:Value→Shared→Prop),Q (.bool (g i j)) s→wpAny (model X.prog X.w) X.A (f (.int i t) (.int j u)) Q E s):
  OpR X f (rI0 fun i j=>.bl (g i j)):=by
 intro pins s σ H x y v u Q I rx ry h
 obtain ⟨i,j,rfl,rfl,q⟩:=h
 obtain ⟨t,rfl⟩:=rx
 obtain ⟨t',rfl⟩:=ry
 exact rule i j t t' s _ _ ⟨.bl (g i j),H,I,rfl,q⟩
def CDiv (i j:Int):Prop:=0<j∧j<1073741824
def CPow (i j:Int):Prop:=0≤j∧j≤1000000∧i.natAbs<2 ^ 64
def CMul (i j:Int):Prop:=(-(2 ^ 64)<i∧i<2 ^ 64)∨(-(2 ^ 64)<j∧j<2 ^ 64)
theorem CMul.ok {i j:Int} (h:CMul i j):IntMulOk i j:=by
 rcases h with ⟨h1,h2⟩ | ⟨h1,h2⟩
 ·exact .of_left (intBits_le_64 h1 h2)
 ·exact .of_right (intBits_le_64 h1 h2)
theorem zhy (k:Nat):(0:Int)≤2 ^ k:=by
 rw [two_pow_cast]
 exact Int.natCast_nonneg _
theorem za8:OpR X (binaryOp .Add) (rI0 fun i j=>.int (i+j)):=opI0 fun _ _ _ _ _ _ _ q=>add_int q
theorem zfp:OpR X (binaryOp .Sub) (rI0 fun i j=>.int (i-j)):=opI0 fun _ _ _ _ _ _ _ q=>sub_int q
theorem zbQ:OpR X (binaryOp .Mult) (rI CMul fun i j=>.int (i*j)):=opI fun _ _ _ _ _ _ _ hc q=>mul_int q hc.ok
theorem za7:OpR X (binaryOp .FloorDiv) (rI CDiv fun i j=>.int (i / j)):=opI fun i j _ _ _ _ _ hc q=>by
 have h1:(0:Int)<j:=hc.1
 have h2:j<1073741824:=hc.2
 exact floordiv_int (by omega) (by rw [Int.fdiv_eq_ediv_of_nonneg i (by omega)];exact q) (.inl (PyProof.noPylong_small (by omega)))
theorem zaB:OpR X (binaryOp .Mod) (rI (fun _ j=>0<j) fun i j=>.int (i % j)):=opI fun i j _ _ _ _ _ hc q=>by
 have h1:(0:Int)<j:=hc
 exact mod_int' (by omega) (by rw [Int.fmod_eq_emod_of_nonneg i (by omega)];exact q)
theorem zkr:OpR X (binaryOp .Pow) (rI CPow fun i j=>.int (i ^ j.toNat)):=opI fun _ _ _ _ _ _ _ hc q=>pow_int_small hc.1 hc.2.1 hc.2.2 q
theorem zks:OpR X (binaryOp .RShift) (rI (fun _ j=>0≤j) fun i j=>.int (i / 2 ^ j.toNat)):=opI fun i j _ _ _ _ _ hc q=>
 rshift_int hc (by rw [Int.fdiv_eq_ediv_of_nonneg i (zhy _)];exact q)
theorem unI {f:Value→Sem Value} {g:Int→Int}
  (rule:∀(i:Int) (t:Tok) (s:Shared) (Q:Value→Shared→Prop) (E:Value→Shared→Prop),Q (.int (g i) s.toks) { s with toks:=s.toks+1 }→wpAny (model X.prog X.w) X.A (f (.int i t)) Q E s):
  UnR X f (rU fun i=>.int (g i)):=by
 intro pins s σ H x v Q I rx h
 obtain ⟨i,rfl,q⟩:=h
 obtain ⟨t,rfl⟩:=rx
 exact rule i t s _ _ ⟨.int (g i),H,I.tok _,⟨_,rfl⟩,q⟩
theorem zgQ:UnR X (unaryOp .USub) (rU fun i=>.int (-i)):=unI fun _ _ _ _ _ q=>neg_int q
end
def scal:V→V→Bool
 | .non,.non=>true | .non,.int _=>true | .int _,.non=>true | .non,.bl _=>true | .bl _,.non=>true | .non,.str _=>true | .str _,.non=>true
 | .int _,.int _=>true | .bl _,.bl _=>true | .str _,.str _=>true | .byt _,.byt _=>true
 | .int _,.str _=>true | .str _,.int _=>true | .bl _,.str _=>true | .str _,.bl _=>true
 | _,_=>false
def rEq:R2:=fun x y H Q=>scal x y=true∧Q (.bl (decide (x=y))) H
theorem zk1 {i j:Int}:decide (V.int i=V.int j)=(i==j):=by
 rw [Bool.eq_iff_iff]
 simp
theorem zl7 {i j:Bool}:decide (V.bl i=V.bl j)=(i==j):=by
 rw [Bool.eq_iff_iff]
 simp
theorem zk2 {i j:Str}:decide (V.str i=V.str j)=(i==j):=by
 rw [Bool.eq_iff_iff]
 simp
theorem zk3 {i j:Array UInt8}:decide (V.byt i=V.byt j)=(i.toList==j.toList):=by
 rw [Bool.eq_iff_iff]
 cases i
 cases j
 simp
section
variable {X:Cx} {a b c:Expr} {ta tb tc:TE} {pos:Pos}
theorem zbA {pins:List (Addr × Obj)} {σ:St} {H:Hp} {s:Shared} {Q:VK} {k k':Bool} (I:Inv X pins σ H s) (q:Q (.bl k) H) (e:k=k'):EP X pins σ Q (.bool k') s:=by
 subst e
 exact ⟨.bl k,H,I,rfl,q⟩
theorem zfq:OpR X (compareOp .Eq) rEq:=by
 intro pins s σ H x y v u Q I rx ry h
 obtain ⟨hs,q⟩:=h
 cases x with
 | non=>
   cases rx
   cases y with
   | non=>cases ry;exact PySem.EqNone.eq_none_none (zbA I q (by simp))
   | bl j=>cases ry;exact PySem.EqNone.eq_none_bool (zbA I q (by simp))
   | int j=>obtain ⟨t',rfl⟩:=ry;exact PySem.EqNone.eq_none_int (zbA I q (by simp))
   | str j=>obtain ⟨t',rfl⟩:=ry;exact PySem.EqNone.eq_none_str (zbA I q (by simp))
   | _=>exact absurd (show false=true from hs) Bool.false_ne_true
 | bl i=>
   cases rx
   cases y with
   | non=>cases ry;exact PySem.EqNone.eq_bool_none (zbA I q (by simp))
   | bl j=>cases ry;exact eq_bool (zbA I q zl7)
   | str j=>obtain ⟨t',rfl⟩:=ry;exact PySem.EqMixed.eq_bool_str (zbA I q (by simp))
   | _=>exact absurd (show false=true from hs) Bool.false_ne_true
 | int i=>
   obtain ⟨t,rfl⟩:=rx
   cases y with
   | non=>cases ry;exact PySem.EqNone.eq_int_none (zbA I q (by simp))
   | int j=>obtain ⟨t',rfl⟩:=ry;exact eq_int (zbA I q zk1)
   | str j=>obtain ⟨t',rfl⟩:=ry;exact PySem.EqMixed.eq_int_str (zbA I q (by simp))
   | _=>exact absurd (show false=true from hs) Bool.false_ne_true
 | str i=>
   obtain ⟨t,rfl⟩:=rx
   cases y with
   | non=>cases ry;exact PySem.EqNone.eq_str_none (zbA I q (by simp))
   | bl j=>cases ry;exact PySem.EqMixed.eq_str_bool (zbA I q (by simp))
   | int j=>obtain ⟨t',rfl⟩:=ry;exact PySem.EqMixed.eq_str_int (zbA I q (by simp))
   | str j=>obtain ⟨t',rfl⟩:=ry;exact eq_str (zbA I q zk2)
   | _=>exact absurd (show false=true from hs) Bool.false_ne_true
 | byt i=>
   obtain ⟨t,rfl⟩:=rx
   cases y with
   | byt j=>obtain ⟨t',rfl⟩:=ry;exact PySem.W.eq_bytes (zbA I q zk3)
   | _=>exact absurd (show false=true from hs) Bool.false_ne_true
 | _=>cases y<;>exact absurd (show false=true from hs) Bool.false_ne_true
theorem zl8:OpR X (compareOp .Lt) (rI0 fun i j=>.bl (decide (i<j))):=opB0 fun _ _ _ _ _ _ _ q=>lt_int q
theorem zh4:OpR X (compareOp .LtE) (rI0 fun i j=>.bl (decide (i≤j))):=opB0 fun _ _ _ _ _ _ _ q=>le_int q
theorem zcs:OpR X (compareOp .Gt) (rI0 fun i j=>.bl (decide (j<i))):=opB0 fun _ _ _ _ _ _ _ q=>gt_int q
theorem zl9:OpR X (compareOp .GtE) (rI0 fun i j=>.bl (decide (j≤i))):=opB0 fun _ _ _ _ _ _ _ q=>ge_int q
theorem zma:OpR X (compareOp .Is) (fun x y H Q=>y=.non∧Q (.bl (decide (x=.non))) H):=by
 intro pins s σ H x y v u Q I rx ry h
 obtain ⟨rfl,q⟩:=h
 cases ry
 refine is_none_gen (zbA I q ?_)
 cases x<;>first
  | (cases rx;rfl)
  | (obtain ⟨t,rfl⟩:=rx;rfl)
theorem zk4:OpR X (compareOp .IsNot) (fun x y H Q=>y=.non∧Q (.bl (!decide (x=.non))) H):=by
 intro pins s σ H x y v u Q I rx ry h
 obtain ⟨rfl,q⟩:=h
 cases ry
 refine isnot_none_gen (zbA I q ?_)
 cases x<;>first
  | (cases rx;rfl)
  | (obtain ⟨t,rfl⟩:=rx;rfl)
theorem zay (b:Expr) {op:CmpOp} (h:op ≠ .In:=by decide) (h2:op ≠ .NotIn:=by decide):behindInMarks op b=false:=by
 have e1:(op==CmpOp.In)=false:=by cases op<;>first | rfl | exact absurd rfl h
 have e2:(op==CmpOp.NotIn)=false:=by cases op<;>first | rfl | exact absurd rfl h2
 cases b<;>simp [behindInMarks,e1,e2]
theorem zb7 {op:CmpOp} {r:R2} (ho:OpR X (compareOp op) r) (ha:PE X a ta) (hb:PE X b tb) (hm:behindInMarks op b=false):PE X (.Compare a [op] [b] pos) (tOp r ta tb):=by
 with_unfolding_all
  intro pins s σ H Q I h
  exact wpAny_Compare1 (binT ha hb I h fun v u s2 x y H2 I2 rx ry q=>ho pins s2 σ H2 x y v u Q I2 rx ry q) hm
def zm7 (t:TE):TT:=fun σ H Q=>t σ H fun x H'=>∃k,x=.bl k∧Q k H'
theorem zaw {op:CmpOp} {r:R2} (ho:OpR X (compareOp op) r) (ha:PE X a ta) (hb:PE X b tb) (hm:behindInMarks op b=false):PT X (.Compare a [op] [b] pos) (zm7 (tOp r ta tb)):=by
 with_unfolding_all
  intro pins s σ H Q I h
  refine wpAny_isTrue_Compare1 (thn (ha pins s σ H _ I h) fun v s1 ⟨x,H1,I1,r1,q1⟩=>thn (hb pins s1 σ H1 _ I1 q1) fun u s2 ⟨y,H2,I2,r2,q2⟩=>
   thn (ho pins s2 σ H2 x y v u _ I2 r1 r2 q2) fun c s3 ⟨z,H3,I3,r3,k,e,q3⟩=>?_) hm
  subst e
  cases r3
  exact wpAny_truthy_bool ⟨H3,I3,q3⟩
def zmb (r r':R2) (ta tb tc:TE):TE:=fun σ H Q=>ta σ H fun x H1=>tb σ H1 fun y H2=>r x y H2 fun z H3=>∃k,z=.bl k∧
 (if k=true then tc σ H3 fun w' H4=>r' y w' H4 Q else Q (.bl false) H3)
theorem zju {op op':CmpOp} {r r':R2} (ho:OpR X (compareOp op) r) (ho':OpR X (compareOp op') r') (ha:PE X a ta) (hb:PE X b tb) (hc:PE X c tc)
  (hm:lastMarks [op,op'] [b,c]=false:=by with_unfolding_all rfl):PE X (.Compare a [op,op'] [b,c] pos) (zmb r r' ta tb tc):=by
 with_unfolding_all
  intro pins s σ H Q I h
  refine Compare_chain (thn (ha pins s σ H _ I h) fun v s1 ⟨x,H1,I1,r1,q1⟩=>chain_link (thn (hb pins s1 σ H1 _ I1 q1) fun u s2 ⟨y,H2,I2,r2,q2⟩=>
   thn (ho pins s2 σ H2 x y v u _ I2 r1 r2 q2) fun d s3 ⟨z,H3,I3,r3,k,e,q3⟩=>?_)) hm
  subst e
  cases r3
  refine wpAny_truthy_bool ?_
  cases k with
  | false=>exact ite_ff ⟨.bl false,H3,I3,rfl,q3⟩
  | true=>exact ite_tt (chain_last (thn (hc pins s3 σ H3 _ I3 q3) fun w' s4 ⟨z',H4,I4,r4,q4⟩=>ho' pins s4 σ H4 y z' u w' Q I4 r2 r4 q4))
theorem zh5:(sizeLine:Nat)<2 ^ 63:=by rw [sizeLine_eq];decide
theorem zer {x:V} {us:List Value} (r:Vals [x] us):∃u,us=[u]∧RelV x u:=by
 cases r with
 | cons r1 r2=>cases r2;exact ⟨_,rfl,r1⟩
theorem zjv {x y:V} {us:List Value} (r:Vals [x,y] us):∃u w',us=[u,w']∧RelV x u∧RelV y w':=by
 cases r with
 | cons r1 r2=>
   cases r2 with
   | cons r3 r4=>cases r4;exact ⟨_,_,rfl,r1,r3⟩
theorem zfr (hc:X.calm=true):zdU X (.builtin "max") (fun xs H Q=>∃i j,xs=[.int i,.int j]∧Q (.int (if j > i then j else i)) H):=by
 intro pins s σ H xs us Q I r h
 obtain ⟨i,j,rfl,q⟩:=h
 obtain ⟨u,w',rfl,⟨t,rfl⟩,⟨t',rfl⟩⟩:=zjv r
 refine max_two_ints (I.ok.hd hc) fun h' tk k=>⟨_,H,I.kept k,?_,q⟩
 by_cases hj:j > i
 ·rw [if_pos hj,if_pos hj];exact ⟨_,rfl⟩
 ·rw [if_neg hj,if_neg hj];exact ⟨_,rfl⟩
theorem zfs (hc:X.calm=true):zdU X (.builtin "min") (fun xs H Q=>∃i j,xs=[.int i,.int j]∧Q (.int (if j<i then j else i)) H):=by
 intro pins s σ H xs us Q I r h
 obtain ⟨i,j,rfl,q⟩:=h
 obtain ⟨u,w',rfl,⟨t,rfl⟩,⟨t',rfl⟩⟩:=zjv r
 refine min_two_ints (I.ok.hd hc) fun h' tk k=>⟨_,H,I.kept k,?_,q⟩
 by_cases hj:j<i
 ·rw [if_pos hj,if_pos hj];exact ⟨_,rfl⟩
 ·rw [if_neg hj,if_neg hj];exact ⟨_,rfl⟩
theorem zcX:zdU X (.type "int") (fun xs H Q=>(∃i,xs=[.int i]∧Q (.int i) H)∨∃k,xs=[.bl k]∧Q (.int (if k then 1 else 0)) H):=by
 intro pins s σ H xs us Q I r h
 rcases h with ⟨i,rfl,q⟩ | ⟨k,rfl,q⟩
 ·obtain ⟨u,rfl,t,rfl⟩:=zer r
  exact call_int_int ⟨.int i,H,I,⟨_,rfl⟩,q⟩
 ·obtain ⟨u,rfl,r1⟩:=zer r
  cases r1
  exact call_int_bool ⟨.int (if k then 1 else 0),H,I.tok _,⟨_,rfl⟩,q⟩
end
end L2
namespace L2
open PySem PySem.Spec PyProof.Rows
structure ObjM (h:Heap) (x dx C:Addr) (mA:Str→Option Value):Prop where
 obj:h.get? x=some (PySem.W.instObj C dx)
 ns:h.Ns1 dx mA
 ne:dx≠x
theorem zh6 {h:Heap} {dx:Addr} {mA:Str→Option Value} (n:h.Ns1 dx mA):∃od,h.get? dx=some od∧∀name,PySem.W.lookIn name od=some (mA name):=by
 obtain ⟨o,es,ep,ho,hd,hk,_,hm⟩:=n
 refine ⟨o,ho,fun name=>?_⟩
 have e:=hm name
 unfold nsFind findBy at e
 rw [←Array.find?_toList] at e
 unfold PySem.W.lookIn
 rw [hd]
 dsimp only
 split
 ·rename_i y q
  rw [q] at e
  exact congrArg some e
 ·rename_i q
  rw [q] at e
  have a:es.toList.any (·.refKey)=false:=by
   rw [List.any_eq_false]
   intro y hy
   obtain ⟨z,t,hkey⟩:=hk y (Array.mem_toList_iff.mp hy)
   simp [DictEntry.refKey,hkey]
  have a':¬es.toList.any (·.refKey)=true:=by rw [a];exact Bool.false_ne_true
  rw [if_neg a']
  exact congrArg some e
theorem ObjM.look {h:Heap} {x dx C:Addr} {mA:Str→Option Value} (I:ObjM h x dx C mA):∃od,PySem.W.InstAt h x (PySem.W.instObj C dx) C (some od)∧∀name,PySem.W.lookIn name od=some (mA name):=
 let ⟨od,ho,hl⟩:=zh6 I.ns
 ⟨od,⟨I.obj,rfl,rfl,ho⟩,hl⟩
section
variable {prog:Program} {w:World} {A:Around} {E:Value→Shared→Prop} {s:Shared} {K:PySem.W.Frag} {x dx C f:Addr} {mA:Str→Option Value} {name:Str} {v:Value}
end
theorem RelO.some_of {v:V} {o:Option Value} (r:RelO (some v) o):∃u,o=some u∧RelV v u:=by
 cases o with
 | none=>exact (show False from r).elim
 | some u=>exact ⟨u,rfl,r⟩
section
variable {P:Program} {w:World} {H H':Hp} {h h':Heap} {a C dx:Addr} {fs fs':List (Str × V)}
theorem zk5 (hok:HOk P w H h) (e:H a=some (.ins C dx fs)):∃mA,ObjM h a dx C mA∧(∀f,RelO (fs.lookup f) (mA f))∧PySem.Within mA (fs.map (·.1))∧fs.length≤1000∧H dx=some (.own a):=by
 obtain ⟨d,z,ne,ob,mA,n,r,q⟩:=(show zbJ P w H h a (.ins C dx fs) from hok a _ e)
 exact ⟨mA,⟨ob,n,ne⟩,r,q,z,d⟩
end
structure Cls (K:PySem.W.Frag) (C:Addr):Prop where
 pg:PySem.W.plainGet K C Str.empty=true
 hd:PySem.W.hasDictIn K C=true
 po:PySem.W.plainOver K C=true
 sa:PySem.W.findIn K (.ref C) "__setattr__" = some (some (.builtin "object.__setattr__"))
theorem Cls.get {K:PySem.W.Frag} {C:Addr} (c:Cls K C) (f:Str):PySem.W.plainGet K C f=true:=c.pg
def zgR (K:PySem.W.Frag) (C:Addr) (f:Str):Prop:=PySem.W.findIn K (.ref C) f=some none
structure Con (K:PySem.W.Frag) (C:Addr) (f:Str) (v:V) (u:Value):Prop where
 at_:PySem.W.findIn K (.ref C) f=some (some u)
 rel:RelV v u
 get:PySem.W.specialIn K u "__get__" = some none
 cp:PySem.W.copiedNames.contains f=false
structure Meth (K:PySem.W.Frag) (C:Addr) (m:Str) (f:Addr):Prop where
 at_:PySem.W.findIn K (.ref C) m=some (some (.ref f))
 fn:PySem.W.isFn K (.ref f)=true
 kp:PySem.W.keepIn K (.ref f)=true
section
variable {X:Cx} {pins:List (Addr × Obj)} {σ:St} {H:Hp} {s:Shared} {a C dx:Addr} {fs:List (Str × V)} {f:Str} {v:V} {A:Around} {E:Value→Shared→Prop}
end
section
variable {X:Cx} {o e value:Expr} {f:Str} {pos pos' tpos:Pos} {ta tv:TE}
end
section
variable {X:Cx} {pins:List (Addr × Obj)} {σ:St} {H:Hp} {s:Shared} {A:Around} {E:Value→Shared→Prop} {Q:Value→Shared→Prop} {c:Value} {b:Bool}
inductive TyOf (K:PySem.W.Frag) (H:Hp):V→Value→Prop where
 | non:TyOf K H .non (.type "NoneType")
 | bl (x:Bool):TyOf K H (.bl x) (.type "bool")
 | int (i:Int):TyOf K H (.int i) (.type "int")
 | str (x:Str):TyOf K H (.str x) (.type "str")
 | flt (x:UInt64):TyOf K H (.flt x) (.type "float")
 | lst {a:Addr} {xs:List V} (e:H a=some (.lst xs)):TyOf K H (.ref a) (.type "list")
 | frz {a:Addr} {o:Obj} {xs:List V} (e:H a=some (.frz o (.lst xs))):TyOf K H (.ref a) (.type "list")
 | tup {a:Addr} {xs:List V} (e:H a=some (.tup xs)):TyOf K H (.ref a) (.type "tuple")
 | dK {a:Addr} {kvs:List (Key × V)} (e:H a=some (.dK kvs)):TyOf K H (.ref a) (.type "dict")
 | dT {a:Addr} {kvs:List (List Key × V)} (e:H a=some (.dT kvs)):TyOf K H (.ref a) (.type "dict")
 | ins {a C dx:Addr} {fs:List (Str × V)} (e:H a=some (.ins C dx fs)) (cl:Cls K C) (ha:PySem.W.findIn K (.ref C) "__class__" = some (some (.builtin "object.__class__")))
    (hn:PySem.W.specialIn K (.builtin "object.__class__") "__get__" = some (some (.builtin "getset_descriptor.__get__"))) (htk:PySem.W.takesIn K (.builtin "object.__class__")=some true)
    (hm:PySem.W.mroIn K C (.type "object")=some true):TyOf K H (.ref a) (.ref C)
theorem zh7 {x:V} {u t:Value} (I:Inv X pins σ H s) (rx:RelV x u) (ty:TyOf X.K H x t) (e:PySem.W.kitOne X.K t c=some b) (h:∀tk,Q (.bool b) { s with toks:=tk }):
  wpAny (model X.prog X.w) A (call (.builtin "isinstance") [u,c]) Q E s:=by
 cases ty with
 | non=>cases (show u=Value.none from rx);exact PySem.W.kia_one PySem.W.kitx_none I.kIn True.intro e (fun z=>nomatch z) h
 | bl y=>cases (show u=Value.bool y from rx);exact PySem.W.kia_one PySem.W.kitx_bool I.kIn True.intro e (fun z=>nomatch z) h
 | int i=>obtain ⟨t,q⟩:=(show ∃t,u=Value.int i t from rx);cases q;exact PySem.W.kia_one PySem.W.kitx_int I.kIn True.intro e (fun z=>nomatch z) h
 | str y=>obtain ⟨t,q⟩:=(show ∃t,u=Value.str y t from rx);cases q;exact PySem.W.kia_one PySem.W.kitx_str I.kIn True.intro e (fun z=>nomatch z) h
 | flt y=>obtain ⟨t,q⟩:=(show ∃t,u=Value.float y t from rx);cases q;exact PySem.W.kia_one PySem.W.kitx_float I.kIn True.intro e (fun z=>nomatch z) h
 | @lst a xs ea=>
   cases (show u=Value.ref a from rx)
   obtain ⟨_,_,n,_,h1⟩:=(show zbJ X.prog X.w H s.heap a (.lst xs) from I.hok a _ ea)
   exact PySem.W.kia_one PySem.W.kitx_list I.kIn ⟨_,h1,rfl⟩ e (fun z=>nomatch z) h
 | @frz a ob xs ea=>
   cases (show u=Value.ref a from rx)
   obtain ⟨_,_,_,n,_,h1⟩:=(show zbJ X.prog X.w H s.heap a (.frz ob (.lst xs)) from I.hok a _ ea)
   exact PySem.W.kia_one PySem.W.kitx_list I.kIn ⟨_,h1,rfl⟩ e (fun z=>nomatch z) h
 | @tup a xs ea=>
   cases (show u=Value.ref a from rx)
   obtain ⟨_,_,_,p⟩:=(show zbJ X.prog X.w H s.heap a (.tup xs) from I.hok a _ ea)
   obtain ⟨o,h1,h2,_⟩:=p
   exact PySem.W.kia_one PySem.W.kitx_tuple I.kIn ⟨o,h1,h2⟩ e (fun z=>nomatch z) h
 | @dK a kvs ea=>
   cases (show u=Value.ref a from rx)
   obtain ⟨_,_,vs,_,p⟩:=(show zbJ X.prog X.w H s.heap a (.dK kvs) from I.hok a _ ea)
   obtain ⟨o,es,ep,h1,h2,_⟩:=p
   exact PySem.W.kia_one PySem.W.kitx_dict I.kIn ⟨o,h1,h2.1⟩ e (fun z=>nomatch z) h
 | @dT a kvs ea=>
   cases (show u=Value.ref a from rx)
   obtain ⟨_,_,xs,_,o,es,ep,h1,h2,_⟩:=(show zbJ X.prog X.w H s.heap a (.dT kvs) from I.hok a _ ea)
   exact PySem.W.kia_one PySem.W.kitx_dict I.kIn ⟨o,h1,h2.1⟩ e (fun z=>nomatch z) h
 | @ins a C dx fs ea cl ha hn htk hm=>
   cases (show u=Value.ref a from rx)
   obtain ⟨mA,O,_⟩:=zk5 I.hok ea
   obtain ⟨od,J,_⟩:=O.look
   exact PySem.W.kia_one (PySem.W.kitx_own (cl.get _) cl.hd ha hn htk hm) I.kIn J e (fun z=>nomatch z) h
end
end L2
namespace L2
open PySem PySem.Spec PyProof.Rows
structure Room (k:Nat) (A:Around):Prop where
 hd:A.handled=none
 dp:A.depth+3*k+5<recursionLimit
 un:A.units+16*k+200<cLine
 gd:A.guards=some []
theorem Room.mono {j k:Nat} {A:Around} (r:Room k A) (h:j≤k):Room j A:=⟨r.hd,by have:=r.dp;omega,by have:=r.un;omega,r.gd⟩
theorem Room.deeper {k:Nat} {A:Around} (r:Room (k+1) A) (env:Env):Room k (A.deeper env):=
 ⟨r.hd,by have:=r.dp;show A.depth+1+3*k+5<_;omega,by have:=r.un;show A.units+3+16*k+200<_;omega,r.gd⟩
theorem Room.in1 {k:Nat} {A:Around} (r:Room (k+1) A):Room k A.in1:=
 ⟨r.hd,by have:=r.dp;show A.depth+3*k+5<_;omega,by have:=r.un;show A.units+1+16*k+200<_;omega,r.gd⟩
theorem Room.depth {k:Nat} {A:Around} (r:Room k A):A.depth<recursionLimit:=by have:=r.dp;omega
theorem Room.units0 {k:Nat} {A:Around} (r:Room k A):A.units<cLine:=by have:=r.un;omega
def tNil:TA:=fun _ H Q=>Q [] H
def zk6 (ta:TE) (tr:TA):TA:=fun σ H Q=>ta σ H fun x H1=>tr σ H1 fun xs H2=>Q (x::xs) H2
section
variable {X:Cx} {e:Expr} {es:List Expr} {te:TE} {t:TA} {pos:Pos}
theorem zae:PA X [] tNil:=by
 with_unfolding_all
  exact fun _ _ _ _ H Q I h=>Calls.spliced_nil ⟨[],H,I,.nil,h⟩
theorem zaa (ha:PE X e te) (hr:PA X es t) (hs:starEach (e::es) X.env=(false,eval e X.env)::starEach es X.env:=by rfl):PA X (e::es) (zk6 te t):=by
 with_unfolding_all
  intro pos pins s σ H Q I h
  rw [hs]
  show wpAny _ _ (spliced ((false,eval e X.env)::backTo pos (starEach es X.env))) _ _ s
  refine Calls.spliced_cons (thn (ha pins s σ H _ I h) fun u s1 ⟨x,H1,I1,r1,q1⟩=>?_)
  exact thn (hr pos pins s1 σ H1 _ I1 q1) fun us s2 ⟨xs,H2,I2,r2,q2⟩=>⟨x::xs,H2,I2,.cons r1 r2,q2⟩
end
abbrev Sp:=List V→Hp→VK→XK→Prop
abbrev CXT:=List Env→Hp→Shared→XK→Value→Shared→Prop
structure Env0 (P:Program) (w:World) (K:PySem.W.Frag) (mg:Str→Option Value) (base:Heap) (A:Around) (outer:List Env) (s:Shared) (H:Hp):Prop where
 frames:A.frames=some outer
 mod:Mod K mg base
 bs:∀b o,base.get? b=some o→s.heap.get? b=some o∧H b=none
 bsz:base.objs.size≤s.heap.objs.size
 funs:s.heap.FunFrames base outer
 frf:∀b∈frs outer,H b=none
 hok:HOk P w H s.heap
 bare:AllBare s.gens
def CE (outer:List Env) (P:Program) (w:World) (H:Hp) (s:Shared) (Q:VK) (u:Value) (s':Shared):Prop:=
 ∃v H',s'.os=s.os∧AllBare s'.gens∧Un (frs outer) [] H H' s.heap s'.heap∧HOk P w H' s'.heap∧RelV v u∧Q v H'
def CR (CX:CXT) (outer:List Env) (P:Program) (w:World) (H:Hp) (s:Shared) (Q:VK) (E:XK) (r:Result) (s':Shared):Prop:=
 match r with
 | .ok (.ret u)=>CE outer P w H s Q u s'
 | .ok _=>False
 | .error e=>CX outer H s E e s'
structure FnOk (P:Program) (w:World) (K:PySem.W.Frag) (mg:Str→Option Value) (base:Heap) (CX:CXT) (k:Nat) (f:Addr) (fd:FuncData) (ps:List Str) (sp:Sp):Prop where
 len:∀vs H Q E,sp vs H Q E→vs.length=ps.length
 run:∀(A:Around) (outer:List Env) (s:Shared) (H:Hp) (args:Args) (us:List Value) (vs:List V) (Q:VK) (E:XK),Room k A→Env0 P w K mg base A outer s H→BindsTo s fd args (ps.zip us)→Vals vs us→sp vs H Q E→
  codeAny (model P w) A (.call (.ref f) args) (CR CX outer P w H s Q E) s
section
variable {X:Cx} {pins:List (Addr × Obj)} {σ:St} {H:Hp} {s s':Shared}
theorem Inv.env0 (I:Inv X pins σ H s):Env0 X.prog X.w X.K X.mg X.base X.A X.stack s H:=
 ⟨I.ok.frames,I.ok.mod,I.bs,Nat.le_trans I.ok.bsz I.sz,I.stack,I.stkFree,I.hok,I.bare⟩
theorem Inv.after {Q:VK} {u:Value} (I:Inv X pins σ H s) (h:CE X.stack X.prog X.w H s Q u s'):EP X pins σ Q u s':=by
 obtain ⟨v,H',os,bare,un,hok,r,q⟩:=h
 obtain ⟨hh,g,d,t,os'⟩:=s'
 obtain rfl:os'=s.os:=os
 exact ⟨v,H',I.call (h':=hh) (g':=g) (d':=d) (t':=t) (ch:=[]) un hok bare (fun b z=>absurd z (by simp)),r,q⟩
end
def zjw (sp:Sp) (dvs:List V) (E:XK) (t:TA):TE:=fun σ H Q=>t σ H fun vs H1=>sp (vs++dvs) H1 Q E
def zbN (K:PySem.W.Frag) (fd:FuncData) (ps:List Str) (ds:List Value):Prop:=
 ∀(s:Shared) (us:List Value),K.In s.heap→(us++ds).length=ps.length→BindsTo s fd ⟨us,[]⟩ (ps.zip (us++ds))
theorem zbN.all {K:PySem.W.Frag} {fd:FuncData} {ps:List Str} (h:∀us:List Value,us.length=ps.length→bindArgs fd ⟨us,[]⟩=pure (ps.zip us)):zbN K fd ps []:=fun s us _ hl=>by
 rw [List.append_nil] at hl ⊢
 exact .of_eq (h us hl)
def zh8 (CX:CXT) (X:Cx) (E:XK):Prop:=∀(pins:List (Addr × Obj)) (σ:St) (H:Hp) (s:Shared) (e:Value) (s':Shared),Inv X pins σ H s→CX X.stack H s E e s'→X.xe e s'
section
variable {X:Cx} {CX:CXT} {k:Nat} {f C:Addr} {fd:FuncData} {ps:List Str} {sp:Sp} {dvs:List V} {ds:List Value} {E:XK} {x m:Str} {p pos apos:Pos} {e o:Expr} {es:List Expr} {ta:TE} {t:TA}
theorem zmc {pins:List (Addr × Obj)} {σ:St} {H:Hp} {s:Shared} {Q:VK} {us:List Value} {vs:List V} (F:FnOk X.prog X.w X.K X.mg X.base CX k f fd ps sp) (hr:Room k X.A) (hb:zbN X.K fd ps ds) (hd:Vals dvs ds) (hx:zh8 CX X E)
  (I:Inv X pins σ H s) (r:Vals vs us) (h:sp (vs++dvs) H Q E):wpAny (model X.prog X.w) X.A (call (.ref f) us) (EP X pins σ Q) X.xe s:=by
 have r2:Vals (vs++dvs) (us++ds):=r.append hd
 have hl:(us++ds).length=ps.length:=by rw [←r2.length];exact F.len _ _ _ _ h
 refine wpAny_call (codeAny_mono (F.run X.A X.stack s H ⟨us,[]⟩ (us++ds) (vs++dvs) Q E hr I.env0 (hb s us I.kIn hl) r2 h) fun r s' hq=>?_)
 cases r with
 | error e=>exact hx pins σ H s e s' I hq
 | ok fl=>
   cases fl with
   | ret u=>exact I.after hq
   | next=>exact False.elim hq
   | brk=>exact False.elim hq
   | cont=>exact False.elim hq
theorem zgd (F:FnOk X.prog X.w X.K X.mg X.base CX k f fd ps sp) (hr:Room k X.A) (hg:Gl X x) (hm:X.mg x=some (.ref f)) (hk:PySem.W.keepIn X.K (.ref f)=true) (hb:zbN X.K fd ps ds) (hd:Vals dvs ds) (hx:zh8 CX X E)
  (ha:PA X (e::es) t) (hdb:(x==("__debug__" : Str))=false:=by decide) (he:starEach (e::es) X.env=(false,eval e X.env)::starEach es X.env:=by rfl) (hpl:(backTo pos (starEach es X.env)).any (·.1)=false:=by rfl):
  PE X (.Call (.Name x p) (e::es) [] pos) (zjw sp dvs E t):=by
 with_unfolding_all
  intro pins s σ H Q I h
  refine wpAny_Call_Name_kw (zkY I hg hm ?_ hdb)
  refine PySem.W.callWith_K (h₀:=X.base) I.ok.mod.kin hk (thn (ha pos pins s σ H _ I h) fun us s1 ⟨vs,H1,I1,r,q⟩=>⟨I1.kIn,?_⟩) he hpl
  exact zmc F hr hb hd hx I1 r q
structure Mk (K:PySem.W.Frag) (C f:Addr):Prop where
 makes:PySem.W.makesIn K C=true
 init:PySem.W.findIn K (.ref C) "__init__" = some (some (.ref f))
 fn:PySem.W.isFn K (.ref f)=true
 kp:PySem.W.keepIn K (.ref C)=true
end
section
variable {X:Cx} {CX:CXT} {k:Nat} {f C:Addr} {fd:FuncData} {ps ks:List Str} {sp:Sp} {E:XK} {x m:Str} {p pos apos kpos:Pos} {e o:Expr} {es:List Expr} {kws:List Keyword} {te ta:TE} {t tk:TA} {nm:Option Str}
structure KBinds (K:PySem.W.Frag) (fd:FuncData) (ps ks:List Str) (g:List Value→List Value→List Value) (gV:List V→List V→List V):Prop where
 to:∀(s:Shared) (us ws:List Value),K.In s.heap→(g us ws).length=ps.length→BindsTo s fd ⟨us,ks.zip ws⟩ (ps.zip (g us ws))
 rel:∀ {vs:List V} {us:List Value} {zs:List V} {ws:List Value},Vals vs us→Vals zs ws→Vals (gV vs zs) (g us ws)
variable {g:List Value→List Value→List Value} {gV:List V→List V→List V}
end
structure FnScope (N P:List Str) (sc:Scope):Prop where
 kind:sc.kind=.function
 co:sc.isCoroutine=false
 gen:sc.isGenerator=false
 nd:N.Nodup
 pre:N.take P.length=P
 par:∀x∈P,sc.names.lookup x=some .local∨sc.names.lookup x=some .cell
 nofree:∀y∈sc.names,y.2≠.free
theorem zft {kindOf:Str→Option NameKind} {x:Str}:∀ {binds:List (Str × Value)} {m:Str→Option Value},(∀v,(x,v)∉binds)→bindL kindOf binds m x=m x
 | [],_,_=>rfl
 | (n,v)::r,m,h=>by
   unfold bindL
   rw [zft fun w hw=>h w (List.mem_cons_of_mem _ hw)]
   split
   ·have:x≠n:=by rintro rfl;exact h v List.mem_cons_self
    simp [this]
   ·rfl
theorem zfu {kindOf:Str→Option NameKind} {x:Str}:∀ {binds:List (Str × Value)} {m:Str→Option Value},(∀v,(x,v)∉binds)→bindC kindOf binds m x=m x
 | [],_,_=>rfl
 | (n,v)::r,m,h=>by
   unfold bindC
   rw [zfu fun w hw=>h w (List.mem_cons_of_mem _ hw)]
   split
   ·rfl
   ·have:x≠n:=by rintro rfl;exact h v List.mem_cons_self
    simp [this]
theorem zfv {kindOf:Str→Option NameKind} {x:Str} {v:Value}:∀ {P:List Str} {vs:List Value} {i:Nat} {m:Str→Option Value},P.Nodup→P[i]?=some x→vs[i]?=some v→kindOf x=some .local→
  bindL kindOf (P.zip vs) m x=some v
 | [],_,_,_,_,h,_,_=>by simp at h
 | _::_,[],_,_,_,_,h,_=>by simp at h
 | p::P,w::vs,0,m,nd,h1,h2,hk=>by
   simp at h1 h2;subst h1;subst h2
   show bindL kindOf ((p,w)::P.zip vs) m p=_
   unfold bindL
   rw [zft fun v hv=>(List.nodup_cons.mp nd).1 (List.of_mem_zip hv).1,if_pos hk]
   simp
 | p::P,w::vs,i+1,m,nd,h1,h2,hk=>by
   show bindL kindOf ((p,w)::P.zip vs) m x=_
   unfold bindL
   exact zfv (i:=i) (List.nodup_cons.mp nd).2 (by simpa using h1) (by simpa using h2) hk
theorem zfw {kindOf:Str→Option NameKind} {x:Str} {v:Value}:∀ {P:List Str} {vs:List Value} {i:Nat} {m:Str→Option Value},P.Nodup→P[i]?=some x→vs[i]?=some v→kindOf x≠some .local→
  bindC kindOf (P.zip vs) m x=some v
 | [],_,_,_,_,h,_,_=>by simp at h
 | _::_,[],_,_,_,_,h,_=>by simp at h
 | p::P,w::vs,0,m,nd,h1,h2,hk=>by
   simp at h1 h2;subst h1;subst h2
   show bindC kindOf ((p,w)::P.zip vs) m p=_
   unfold bindC
   rw [zfu fun v hv=>(List.nodup_cons.mp nd).1 (List.of_mem_zip hv).1,if_neg hk]
   simp
 | p::P,w::vs,i+1,m,nd,h1,h2,hk=>by
   show bindC kindOf ((p,w)::P.zip vs) m x=_
   unfold bindC
   exact zfw (i:=i) (List.nodup_cons.mp nd).2 (by simpa using h1) (by simpa using h2) hk
def zcY (N:List Str) (vs:List V):St:=vs.map some++List.replicate (N.length-vs.length) none
def cxOf (CX:CXT) (P:Program) (w:World) (K:PySem.W.Frag) (mg:Str→Option Value) (base:Heap) (N:List Str) (qual:Str) (scope:Scope) (f:Addr) (cd:Value) (A:Around) (outer:List Env) (s:Shared) (H:Hp) (E:XK):Cx where
 prog:=P
 w:=w
 K:=K
 mg:=mg
 base:=base
 A:=A.deeper (envOfC qual scope s.heap.objs.size f cd)
 N:=N
 s₀:=s
 H₀:=H
 env:=envOfC qual scope s.heap.objs.size f cd
 outer:=outer
 stack:=envOfC qual scope s.heap.objs.size f cd::outer
 ex:=[]
 calm:=true
 fn:=fun _=>true
 pn:=[]
 xe:=fun e s'=>wpAny (model P w) (A.deeper (envOfC qual scope s.heap.objs.size f cd)) (leaving (envOfC qual scope s.heap.objs.size f cd) e) (fun _ s''=>CX outer H s E e s'') (fun e' s''=>CX outer H s E e' s'') s'
theorem zgS {sc:Scope} {n:Nat} {x:Str} (h:sc.names.lookup x=some .cell):∃c,(cellsFrom n sc.names []).lookup x=some c:=by
 have q:=PySem.W.cellsFrom_some sc.names n [] (.inl h)
 exact Option.isSome_iff_exists.mp q
theorem zfx {CX:CXT} {P:Program} {w:World} {K:PySem.W.Frag} {mg:Str→Option Value} {base:Heap} {N ps:List Str} {qual:Str} {scope:Scope} {f:Addr} {cd:Value} {A:Around} {outer:List Env} {s s1:Shared} {H:Hp} {E:XK} {us:List Value} {vs:List V}
  (S:FnScope N ps scope) (hd:A.handled=none) (e0:Env0 P w K mg base A outer s H) (hl:vs.length=ps.length) (r:Vals vs us)
  (x:InCallC s s.heap.objs.size (bindL (envOfC qual scope s.heap.objs.size f cd).kindOf (ps.zip us) fun _=>none) (cellsFrom (s.heap.objs.size+1) scope.names []) (bindC (envOfC qual scope s.heap.objs.size f cd).kindOf (ps.zip us) fun _=>none) s1):
  Inv (cxOf CX P w K mg base N qual scope f cd A outer s H E) [] (zcY N vs) H s1:=by
 have hpl:ps.length≤N.length:=by have:=congrArg List.length S.pre;rw [List.length_take] at this;omega
 obtain ⟨h1,tk,rfl,hk⟩:=x.done
 have noA:∀b:Addr,b∉(cxOf CX P w K mg base N qual scope f cd A outer s H E).ex:=fun b z=>absurd (show b∈([]:List Addr) from z) (by simp)
 refine ⟨⟨e0.mod,S.kind,rfl,rfl,Nat.le_refl _,fun y z c h1 h2=>?_,fun y hy=>?_,fun y c _ h=>?_,fun _=>hd,Around.frames_deeper e0.frames,.inr ⟨rfl,rfl⟩,fun b z=>absurd z (noA b),e0.bs,e0.bsz,fun b _ _=>noA b,fun b z=>absurd z (noA b),e0.funs,e0.frf⟩,
  rfl,e0.bare,Un.kept hk,⟨_,x.toInCall.ns,fun i y v h1 h2 h3=>?_⟩,fun y c h=>⟨_,x.cell y c h⟩,e0.hok.fresh (Nat.le_refl _),fun y c h=>?_,fun p hp=>absurd (show p∈([]:List (Addr × Obj)) from hp) (by simp),e0.hok.kept hk,?_⟩
 ·exact name_of_addr x.apart (PySem.mem_of_lookup h1) (PySem.mem_of_lookup h2)
 ·have hy:scope.names.lookup y=some .cell∨scope.names.lookup y=some .free:=hy
  rcases hy with hy | hy
  ·exact zgS hy
  ·exact absurd rfl (S.nofree _ (PySem.mem_of_lookup hy))
 ·exact Nat.le_of_lt (x.above y c (PySem.mem_of_lookup h))
 ·have hi:i<vs.length:=by
   unfold zcY at h2
   by_cases hi:i<vs.length
   ·exact hi
   ·rw [List.getElem?_append_right (by simpa using hi)] at h2
    rw [List.getElem?_replicate] at h2
    split at h2<;>cases h2
  have ha:vs[i]?=some v:=by
   unfold zcY at h2
   rw [List.getElem?_append_left (by simpa using hi),List.getElem?_map] at h2
   cases e:vs[i]? with
   | none=>rw [e] at h2;cases h2
   | some a=>rw [e] at h2;cases h2;rfl
  obtain ⟨u,hu,rv⟩:=r.get ha
  have hp:ps[i]?=some y:=by
   rw [←S.pre,List.getElem?_take_of_lt (by omega)];exact h1
  have ndP:ps.Nodup:=by rw [←S.pre];exact S.nd.sublist (List.take_sublist _ _)
  refine ⟨u,rv,?_⟩
  rcases S.par y (List.mem_of_getElem? hp) with k | k
  ·exact .inl ⟨k,zfv ndP hp hu k⟩
  ·obtain ⟨c,e⟩:=zgS (n:=s.heap.objs.size+1) k
   refine .inr ⟨.inl k,c,e,?_⟩
   have q:=x.cell y c e
   rw [zfw ndP hp hu (by show scope.names.lookup y≠_;rw [k];decide)] at q
   exact q
 ·exact e0.hok.fresh (Nat.le_of_lt (x.above y c (PySem.mem_of_lookup h)))
 ·unfold zcY
  show _=N.length
  rw [List.length_append,List.length_map,List.length_replicate]
  omega
theorem zk7 {CX:CXT} {P:Program} {w:World} {K:PySem.W.Frag} {mg:Str→Option Value} {base:Heap} {k:Nat} {f:Addr} {name qual:Str} {params:Arguments} {body:List Stmt} {scope:Scope} {dV kV doc pm cdv ct oc:Value} {an od:Option Addr}
  {osl:Array (Option Value)} {N ps:List Str} {sp:Sp} (lk:K.lookup f=some ⟨oc,od,.func (PySem.W.fnOf name qual params body scope dV kV doc pm an cdv ct),osl⟩) (hcd:PySem.W.codeIn K cdv qual=true) (S:FnScope N ps scope)
  (len:∀vs H Q E,sp vs H Q E→vs.length=ps.length)
  (hbody:∀(A:Around) (outer:List Env) (s:Shared) (H:Hp) (vs:List V) (Q:VK) (E:XK),Room k (A.deeper (envOfC qual scope s.heap.objs.size f cdv))→sp vs H Q E→
    ∃t,PSs (cxOf CX P w K mg base N qual scope f cdv A outer s H E) body t∧t { nx:=fun _ H'=>Q .non H',rt:=Q } (zcY N vs) H):
  FnOk P w K mg base CX (k+1) f (PySem.W.fnOf name qual params body scope dV kV doc pm an cdv ct) ps sp:=by
 with_unfolding_all
  refine ⟨len,fun A outer s H args us vs Q E hr e0 hb r hsp=>?_⟩
  have hl:=len _ _ _ _ hsp
  have KX:K.In s.heap:=e0.mod.kin.keeps fun b o e=>(e0.bs b o e).1
  have lim:s.heap.NoLimit:=e0.mod.nolimit.keeps fun b o e=>(e0.bs b o e).1
  have hkind:∀y∈ps.zip us,scope.names.lookup y.1=some .local∨(scope.names.lookup y.1=some .cell∧((cellsFrom (s.heap.objs.size+1) scope.names []).lookup y.1).isSome=true):=fun ⟨n,v⟩ hy=>by
   rcases S.par n (List.of_mem_zip hy).1 with q | q
   ·exact .inl q
   ·exact .inr ⟨q,PySem.W.cellsFrom_some _ _ _ (.inl q)⟩
  refine codeAny_call_function hr.depth (KX _ _ lk) rfl S.co S.gen rfl (PySem.W.codeRec_of KX hcd) (hb _ _ _ _ ?_)
  refine wpAny_newFunctionEnv_cells S.kind hkind fun env he s1 x=>?_
  subst he
  refine ⟨lim.keeps x.toInCall.keep,codeAny_func ?_⟩
  obtain ⟨t,ht,hq⟩:=hbody A outer s H vs Q E (hr.deeper _) hsp
  have I:Inv (cxOf CX P w K mg base N qual scope f cdv A outer s H E) [] (zcY N vs) H s1:=zfx S hr.hd e0 hl r x
  refine wpAny_mono (ht [] s1 (zcY N vs) H _ I hq) (fun fl s' hs=>?_) fun e s' hs=>hs
  have fin:∀ {σ':St} {H':Hp} {v:V} {u:Value},Inv (cxOf CX P w K mg base N qual scope f cdv A outer s H E) [] σ' H' s'→RelV v u→Q v H'→CE outer P w H s Q u s':=
   fun {σ' H' v u} J rv q=>⟨v,H',J.os,J.bare,J.base,J.hok,rv,q⟩
  cases fl with
  | ret u=>
    obtain ⟨v,σ',H',J,rv,q⟩:=hs
    exact fin J rv q
  | next=>
    obtain ⟨σ',H',J,q⟩:=hs
    exact fin (v:=V.non) (u:=Value.none) J rfl q
  | brk=>
    obtain ⟨_,_,_,q⟩:=hs
    exact False.elim q
  | cont=>
    obtain ⟨_,_,_,q⟩:=hs
    exact False.elim q
end L2
namespace L2
open PySem PySem.Spec PyProof.Rows
section
variable {X:Cx} {x:Str} {p pos:Pos} {e:Expr} {es:List Expr} {t:TA} {id T:String} {r:List V→Hp→VK→Prop}
def tCB (r:List V→Hp→VK→Prop) (t:TA):TE:=fun σ H Q=>t σ H fun vs H1=>r vs H1 Q
theorem zaU (hc:zdU X (.builtin id) r) (hg:Gl X x) (hm:X.mg x=none) (hv:bootBuiltins x=some (.builtin id)) (ha:PA X (e::es) t) (hn:x ≠ "__name__" := by decide) (hdb:(x==("__debug__" : Str))=false:=by decide)
  (he:starEach (e::es) X.env=(false,eval e X.env)::starEach es X.env:=by rfl) (hpl:(backTo pos (starEach es X.env)).any (·.1)=false:=by rfl):PE X (.Call (.Name x p) (e::es) [] pos) (tCB r t):=by
 with_unfolding_all
  intro pins s σ H Q I h
  refine wpAny_Call_Name_kw (zdu I hg hm hv ?_ hn hdb)
  exact PyProof.Rows.callWith_builtin1 (thn (ha pos pins s σ H _ I h) fun us s1 ⟨vs,H1,I1,r1,q1⟩=>hc pins s1 σ H1 vs us Q I1 r1 q1) he hpl
theorem zbK (hc:zdU X (.type T) r) (hg:Gl X x) (hm:X.mg x=none) (hv:bootBuiltins x=some (.type T)) (ha:PA X (e::es) t) (hn:x ≠ "__name__" := by decide) (hdb:(x==("__debug__" : Str))=false:=by decide)
  (he:starEach (e::es) X.env=(false,eval e X.env)::starEach es X.env:=by rfl) (hpl:(backTo pos (starEach es X.env)).any (·.1)=false:=by rfl):PE X (.Call (.Name x p) (e::es) [] pos) (tCB r t):=by
 with_unfolding_all
  intro pins s σ H Q I h
  refine wpAny_Call_Name_kw (zdu I hg hm hv ?_ hn hdb)
  exact PyProof.Rows.callWith_type1 (thn (ha pos pins s σ H _ I h) fun us s1 ⟨vs,H1,I1,r1,q1⟩=>hc pins s1 σ H1 vs us Q I1 r1 q1) he hpl
end
end L2
namespace L2
open PySem PySem.Spec PyProof.Rows
section
variable {κ:Type} [DecidableEq κ]
def valV (kvs:List (κ × V)) (k : κ):Option V:=(kvs.find? fun kv=>decide (kv.1=k)).map (·.2)
def putK (kvs:List (κ × V)) (k : κ) (v:V):List (κ × V):=
 if (kvs.any fun kv=>decide (kv.1=k))=true then kvs.map (fun kv=>if kv.1=k then (kv.1,v) else kv) else kvs++[(k,v)]
theorem zjx {k : κ}:valV ([]:List (κ × V)) k=none:=rfl
theorem zbj {p : κ × V} {r:List (κ × V)} {k : κ} (e:p.1=k):valV (p::r) k=some p.2:=by simp [valV,List.find?_cons,e]
theorem za9 {p : κ × V} {r:List (κ × V)} {k : κ} (e:¬p.1=k):valV (p::r) k=valV r k:=by simp [valV,List.find?_cons,e]
theorem zcF (k : κ):∀kvs:List (κ × V),(kvs.any fun kv=>decide (kv.1=k))=(valV kvs k).isSome
 | []=>rfl
 | p::r=>by
   rw [List.any_cons]
   by_cases e:p.1=k
   ·simp only [zbj e,decide_eq_true e,Bool.true_or,Option.isSome_some]
   ·rw [za9 e,decide_eq_false e,Bool.false_or];exact zcF k r
theorem zgT (k j : κ) (y:V):∀kvs:List (κ × V),valV (kvs.map fun kv=>if kv.1=k then (kv.1,y) else kv) j=(valV kvs j).map fun x=>if j=k then y else x
 | []=>rfl
 | p::r=>by
   have ih:=zgT k j y r
   rw [List.map_cons]
   by_cases h:p.1=k
   ·rw [if_pos h]
    by_cases e:p.1=j
    ·rw [zbj (p:=(p.1,y)) e,zbj e,Option.map_some,if_pos (e.symm.trans h)]
    ·rw [za9 (p:=(p.1,y)) e,za9 e,ih]
   ·rw [if_neg h]
    by_cases e:p.1=j
    ·rw [zbj (p:=p) e,zbj e,Option.map_some,if_neg (fun z=>h (e.trans z))]
    ·rw [za9 (p:=p) e,za9 e,ih]
theorem zfy (k j : κ) (y:V):∀kvs:List (κ × V),valV kvs k=none→valV (kvs++[(k,y)]) j=if j=k then some y else valV kvs j
 | [],_=>by
   by_cases e:k=j
   ·rw [if_pos e.symm];exact zbj (p:=(k,y)) e
   ·rw [if_neg (fun z=>e z.symm)];exact za9 (p:=(k,y)) e
 | p::r,hn=>by
   rw [List.cons_append]
   have hk:¬p.1=k:=fun z=>by rw [zbj z] at hn;cases hn
   rw [za9 hk] at hn
   have ih:=zfy k j y r hn
   by_cases e:p.1=j
   ·rw [zbj e,zbj e,if_neg (fun z=>hk (e.trans z))]
   ·rw [za9 e,za9 e,ih]
theorem zjy (kvs:List (κ × V)) (k j : κ) (y:V):valV (putK kvs k y) j=if j=k then some y else valV kvs j:=by
 unfold putK
 by_cases a:(kvs.any fun kv=>decide (kv.1=k))=true
 ·rw [if_pos a,zgT]
  rw [zcF] at a
  by_cases e:j=k
  ·obtain ⟨x,hx⟩:=Option.isSome_iff_exists.mp a
   rw [if_pos e,e,hx,Option.map_some,if_pos rfl]
  ·rw [if_neg e]
   cases valV kvs j with
   | none=>rfl
   | some x=>rw [Option.map_some,if_neg e]
 ·rw [if_neg a]
  refine zfy k j y kvs ?_
  rw [zcF] at a
  cases q:valV kvs k with
  | none=>rfl
  | some x=>rw [q] at a;exact (a rfl).elim
theorem zdV (kvs:List (κ × V)) (k : κ) (v:V):(putK kvs k v).length≤kvs.length+1:=by
 unfold putK
 split
 ·rw [List.length_map];omega
 ·rw [List.length_append,List.length_cons,List.length_nil];omega
theorem zjz {kvs:List (κ × V)} {k : κ} (v:V) (h:valV kvs k=none):putK kvs k v=kvs++[(k,v)]:=by
 unfold putK
 rw [zcF,h]
 exact if_neg (by decide)
theorem RelO.isSome_eq {o:Option V} {u:Option Value} (r:RelO o u):o.isSome=u.isSome:=by
 cases o with
 | none=>cases u with
   | none=>rfl
   | some _=>exact (show False from r).elim
 | some _=>cases u with
   | none=>exact (show False from r).elim
   | some _=>rfl
theorem RelO.getD {o:Option V} {u:Option Value} {d:V} {d':Value} (r:RelO o u) (rd:RelV d d'):RelV (o.getD d) (u.getD d'):=by
 cases o with
 | none=>cases u with
   | none=>exact rd
   | some _=>exact (show False from r).elim
 | some _=>cases u with
   | none=>exact (show False from r).elim
   | some _=>exact r
theorem KV.val {kvs:List (κ × V)} {vs:List (κ × Value)} (r:KV kvs vs) (k : κ):RelO (valV kvs k) (valueAt vs k):=by
 unfold KV at r
 induction r with
 | nil=>exact True.intro
 | @cons p q ps qs h t ih=>
   obtain ⟨h1,h2⟩:=h
   by_cases e:p.1=k
   ·have e':q.1=k:=h1.symm.trans e
    have b:valueAt (q::qs) k=some q.2:=by simp [valueAt,List.find?_cons,e']
    rw [zbj e,b];exact h2
   ·have e':¬q.1=k:=fun z=>e (h1.trans z)
    have b:valueAt (q::qs) k=valueAt qs k:=by simp [valueAt,List.find?_cons,e']
    rw [za9 e,b];exact ih
theorem KV.any {kvs:List (κ × V)} {vs:List (κ × Value)} (r:KV kvs vs) (k : κ):(kvs.any fun kv=>decide (kv.1=k))=vs.any fun kv=>decide (kv.1=k):=by
 unfold KV at r
 induction r with
 | nil=>rfl
 | cons h t ih=>rw [List.any_cons,List.any_cons,ih,h.1]
theorem KV.repl {kvs:List (κ × V)} {vs:List (κ × Value)} (r:KV kvs vs) (k : κ) {y:V} {u:Value} (ry:RelV y u):
  KV (kvs.map fun kv=>if kv.1=k then (kv.1,y) else kv) (vs.map fun kv=>if kv.1=k then (kv.1,u) else kv):=by
 unfold KV at r ⊢
 induction r with
 | nil=>exact .nil
 | @cons p q ps qs h t ih=>
   rw [List.map_cons,List.map_cons]
   refine .cons ?_ ih
   obtain ⟨h1,h2⟩:=h
   by_cases e:p.1=k
   ·rw [if_pos e,if_pos (h1.symm.trans e)];exact ⟨h1,ry⟩
   ·rw [if_neg e,if_neg (fun z=>e (h1.trans z))];exact ⟨h1,h2⟩
theorem KV.put {kvs:List (κ × V)} {vs:List (κ × Value)} (r:KV kvs vs) (k : κ) {y:V} {u:Value} (ry:RelV y u):KV (putK kvs k y) (stored vs k u):=by
 unfold putK stored
 rw [r.any k]
 by_cases e:(vs.any fun kv=>decide (kv.1=k))=true
 ·rw [if_pos e,if_pos e];exact r.repl k ry
 ·rw [if_neg e,if_neg e];exact Paired.snoc r ⟨rfl,ry⟩
theorem KV.keys {kvs:List (κ × V)} {vs:List (κ × Value)} (r:KV kvs vs):kvs.map (·.1)=vs.map (·.1):=by
 unfold KV at r
 induction r with
 | nil=>rfl
 | cons h t ih=>rw [List.map_cons,List.map_cons,ih,h.1]
theorem KV.length {kvs:List (κ × V)} {vs:List (κ × Value)} (r:KV kvs vs):kvs.length=vs.length:=Paired.length r
end
theorem zjA {P:Program} {w:World} {k:Key} {u:Value} (r:RelV (kV k) u):(zaI P w).is k u=true:=by
 cases k with
 | inl i=>obtain ⟨t,e⟩:=(show ∃t,u=Value.int i t from r);subst e;exact zgb P w i t
 | inr x=>obtain ⟨t,e⟩:=(show ∃t,u=Value.str x t from r);subst e;exact zgc P w x t
theorem zfz {P:Program} {w:World}:∀ {ks:List Key} {us:List Value},Vals (ks.map kV) us→ItemsAre (zaI P w) ks us
 | [],_,r=>by rw [List.map_nil] at r;cases r;exact .nil
 | k::ks,_,r=>by
   rw [List.map_cons] at r
   cases r with
   | cons h t=>exact .cons (zjA h) (zfz t)
abbrev KT (H:Hp):List (List Key × V)→List (List Key × Addr × Value)→Prop:=Paired fun p q=>p.1=q.1∧H q.2.1=some (.tup (p.1.map kV))∧RelV p.2 q.2.2
theorem KT.val {H:Hp} {kvs:List (List Key × V)} {xs:List (List Key × Addr × Value)} (r:KT H kvs xs) (k:List Key):RelO (valV kvs k) ((atKey xs k).map (·.2)):=by
 induction r with
 | nil=>exact True.intro
 | @cons p q ps qs h t ih=>
   obtain ⟨h1,_,h2⟩:=h
   by_cases e:p.1=k
   ·have e':q.1=k:=h1.symm.trans e
    have b:atKey (q::qs) k=some q.2:=by simp [atKey,List.find?_cons,e']
    rw [zbj e,b];exact h2
   ·have e':¬q.1=k:=fun z=>e (h1.trans z)
    have b:atKey (q::qs) k=atKey qs k:=by simp [atKey,List.find?_cons,e']
    rw [za9 e,b];exact ih
theorem KT.repl {H:Hp} {kvs:List (List Key × V)} {xs:List (List Key × Addr × Value)} (r:KT H kvs xs) (k:List Key) {y:V} {u:Value} (ry:RelV y u):
  KT H (kvs.map fun kv=>if kv.1=k then (kv.1,y) else kv) (xs.map (putAt k u)):=by
 induction r with
 | nil=>exact .nil
 | @cons p q ps qs h t ih=>
   rw [List.map_cons,List.map_cons]
   refine .cons ?_ ih
   obtain ⟨h1,h2,h3⟩:=h
   unfold putAt
   by_cases e:p.1=k
   ·rw [if_pos e,if_pos (h1.symm.trans e)];exact ⟨h1,h2,ry⟩
   ·rw [if_neg e,if_neg (fun z=>e (h1.trans z))];exact ⟨h1,h2,h3⟩
theorem KT.put {H:Hp} {kvs:List (List Key × V)} {xs:List (List Key × Addr × Value)} (r:KT H kvs xs) (k:List Key) {b:Addr} {y:V} {u:Value} (hb:H b=some (.tup (k.map kV))) (ry:RelV y u):
  KT H (putK kvs k y) (storedH xs k b u):=by
 have e:(kvs.any fun kv=>decide (kv.1=k))=(atKey xs k).isSome:=by
  rw [zcF,(r.val k).isSome_eq,Option.isSome_map]
 unfold putK storedH
 rw [e]
 by_cases q:(atKey xs k).isSome=true
 ·rw [if_pos q,if_pos q];exact r.repl k ry
 ·rw [if_neg q,if_neg q];exact Paired.snoc r ⟨rfl,hb,ry⟩
theorem KT.keeps {H H':Hp} {kvs:List (List Key × V)} {xs:List (List Key × Addr × Value)} (r:KT H kvs xs) (ht:∀b ys,H b=some (.tup ys)→H' b=some (.tup ys)):KT H' kvs xs:=
 Paired.mapP r fun _ _ z=>⟨z.1,ht _ _ z.2.1,z.2.2⟩
section
variable {P:Program} {w:World} {H:Hp} {h:Heap} {a:Addr}
theorem zmd {u:HO} (ok:HOk P w H h) (e:Rd H a u):zbJ P w H h a u:=e.ok ok
theorem zhz {kvs:List (Key × V)} (ok:HOk P w H h) (e:Rd H a (.dK kvs)):kvs.length≤sizeLine∧(a==sysModules)=false∧∃vs,KV kvs vs∧h.DictOf (zaI P w) a vs:=
 show zbJ P w H h a (.dK kvs) from zmd ok e
theorem zm8 {kvs:List (Key × V)} (ok:HOk P w H h) (e:H a=some (.dK kvs)):kvs.length≤sizeLine∧(a==sysModules)=false∧∃vs,KV kvs vs∧h.DictOf (zaI P w) a vs:=zhz ok (.inl e)
theorem zgU {ks:List Key} (ok:HOk P w H h) (e:H a=some (.tup (ks.map kV))):(tupleKind (zaI P w)).is h ks a:=by
 obtain ⟨_,its,r,o,h1,h2,n,h3⟩:=(show zbJ P w H h a (.tup (ks.map kV)) from ok a _ e)
 exact ⟨o,its.toArray,n,h1,h2,h3,by simpa using zfz r⟩
theorem zh9 {kvs:List (List Key × V)} (ok:HOk P w H h) (e:Rd H a (.dT kvs)):kvs.length≤sizeLine∧(a==sysModules)=false∧
  ∃xs,KT H kvs xs∧h.DictOfH (tupleKind (zaI P w)) a xs:=by
 obtain ⟨z,y,xs,r,o,es,ep,h1,h2,h3,h4,h5⟩:=(show zbJ P w H h a (.dT kvs) from zmd ok e)
 refine ⟨z,y,xs,r,o,es,ep,h1,h2,h3,h4,fun x hx=>?_,h5⟩
 have all:∀ {l:List (List Key × V)} {m:List (List Key × Addr × Value)},KT H l m→∀x∈m,(tupleKind (zaI P w)).is h x.1 x.2.1:=by
  intro l m q
  induction q with
  | nil=>intro x hx;exact nomatch hx
  | @cons p q ps qs hq t ih=>
    intro x hx
    rcases List.mem_cons.mp hx with e | hx
    ·subst e
     exact zgU ok (by rw [←hq.1];exact hq.2.1)
    ·exact ih x hx
 exact all r x hx
theorem zm9 {kvs:List (List Key × V)} (ok:HOk P w H h) (e:H a=some (.dT kvs)):kvs.length≤sizeLine∧(a==sysModules)=false∧
 ∃xs,KT H kvs xs∧h.DictOfH (tupleKind (zaI P w)) a xs:=zh9 ok (.inl e)
end
def DGet (H:Hp) (a:Addr) (y:V) (r:Option V):Prop:=
 (∃kvs k,Rd H a (.dK kvs)∧y=kV k∧r=valV kvs k)∨∃kvs k b,Rd H a (.dT kvs)∧y=.ref b∧H b=some (.tup (k.map kV))∧r=valV kvs k
def DPut (H:Hp) (a:Addr) (y v:V) (H':Hp):Prop:=
 (∃kvs k,H a=some (.dK kvs)∧y=kV k∧kvs.length<sizeLine∧H'=upd H a (.dK (putK kvs k v))) ∨
 ∃kvs k b,H a=some (.dT kvs)∧y=.ref b∧H b=some (.tup (k.map kV))∧kvs.length<sizeLine∧H'=upd H a (.dT (putK kvs k v))
theorem DGet.k {H:Hp} {a:Addr} {kvs:List (Key × V)} {k:Key} (e:H a=some (.dK kvs)):DGet H a (kV k) (valV kvs k):=.inl ⟨kvs,k,.inl e,rfl,rfl⟩
theorem DPut.k {H:Hp} {a:Addr} {kvs:List (Key × V)} {k:Key} {v:V} (e:H a=some (.dK kvs)) (hl:kvs.length<sizeLine):DPut H a (kV k) v (upd H a (.dK (putK kvs k v))):=.inl ⟨kvs,k,e,rfl,hl,rfl⟩
section
variable {X:Cx} {pins:List (Addr × Obj)} {σ:St} {H:Hp} {s:Shared} {a:Addr} {y v:V} {u r:Value} {o:Option V} {A:Around} {E:Value→Shared→Prop}
theorem Inv.big (I:Inv X pins σ H s):sysModules<s.heap.objs.size:=by
 have h:mainGlobals<s.heap.objs.size:=(I.mod.glob.keeps I.bk).lt
 exact Nat.lt_trans (by decide) h
theorem zia {Q:Value→Shared→Prop} (hu:A.units+1<cLine) (I:Inv X pins σ H s) (g:DGet H a y (some v)) (ry:RelV y u) (h:∀w' s',Inv X pins σ H s'→RelV v w'→Q w' s'):
  wpAny (model X.prog X.w) A (getItem (.ref a) u) Q E s:=by
 rcases g with ⟨kvs,k,e,ey,l⟩ | ⟨kvs,k,b,e,ey,eb,l⟩
 ·subst ey
  obtain ⟨z,hd,vs,rel,dd⟩:=zhz I.hok e
  obtain ⟨w',hw,rw'⟩:=RelO.some_of (v:=v) (o:=valueAt vs k) (by rw [l];exact rel.val k)
  exact wpAny_getItem_of (zjA ry) dd.mapOf hw (h w' _ (I.tok _) rw')
 ·subst ey
  cases (show u=Value.ref b from ry)
  obtain ⟨z,hd,xs,rel,dd⟩:=zh9 I.hok e
  obtain ⟨w',hw,rw'⟩:=RelO.some_of (v:=v) (o:=(atKey xs k).map (·.2)) (by rw [l];exact rel.val k)
  obtain ⟨p,hp,hp2⟩:=Option.map_eq_some_iff.mp hw
  refine wpAny_getItem_heap (tupleKind_room_in1 hu) (zgU I.hok eb) dd hp ?_
  rw [hp2]
  exact h w' _ (I.tok _) rw'
theorem zib {h':Heap} {t':Nat} {ob:HO} (I:Inv X pins σ H s) (mu:Mut (H a)) (hs:Heap.SameBut a s.heap h') (he:∃q,h'.get? a=some q) (new:zbJ X.prog X.w (upd H a ob) h' a ob):
  Inv X pins σ (upd H a ob) { s with heap:=h',toks:=t' }:=
 I.write (x:=a) (e:=a) mu (.inl rfl) (fun b q hb z=>(hs.2 b hb).trans z) he new
theorem zkt {P:Program} {w:World} {H':Hp} {h':Heap} {kvs:List (Key × V)} {vs:List (Key × Value)} (z:kvs.length≤sizeLine) (hd:(a==sysModules)=false) (rel:KV kvs vs) (dd:h'.DictOf (zaI P w) a vs):
 zbJ P w H' h' a (.dK kvs):=⟨z,hd,vs,rel,dd⟩
theorem zic {H':Hp} {Q:Unit→Shared→Prop} (hu:A.units+1<cLine) (I:Inv X pins σ H s) (g:DPut H a y v H') (ry:RelV y u) (rv:RelV v r) (h:∀s',Inv X pins σ H' s'→Q () s'):
  wpAny (model X.prog X.w) A (setItem (.ref a) u r) Q E s:=by
 rcases g with ⟨kvs,k,e,ey,l,eH⟩ | ⟨kvs,k,b,e,ey,eb,l,eH⟩
 ·subst ey eH
  obtain ⟨z,hd,vs,rel,dd⟩:=zm8 I.hok e
  have hz:vs.length≤sizeLine:=by rw [←rel.length];exact z
  have hl:(putK kvs k v).length≤sizeLine:=by have:=zdV kvs k v;omega
  refine wpAny_setItem_pairs (hsz:=hz) (zjA ry) dd fun h' dd' hs=>h _ ?_
  have he:∃q,h'.get? a=some q:=let ⟨q,_,_,hq,_⟩:=dd';⟨q,hq⟩
  exact zib I (by rw [e];exact True.intro) hs he (zkt hl hd (rel.put k rv) dd')
 ·subst ey eH
  cases (show u=Value.ref b from ry)
  obtain ⟨z,hd,xs,rel,dd⟩:=zm9 I.hok e
  have hz:xs.length≤sizeLine:=by rw [←Paired.length rel];exact z
  have hl:(putK kvs k v).length≤sizeLine:=by have:=zdV kvs k v;omega
  refine wpAny_setItem_heap (hsz:=hz) (tupleKind_room_in1 hu) (zgU I.hok eb) dd fun h' dd' hs=>h _ ?_
  obtain ⟨q,es,ep,hq,h2,h3,h4,_,h5⟩:=dd'
  refine zib I (by rw [e];exact True.intro) hs ⟨q,hq⟩ ⟨hl,hd,_,(rel.put k eb rv).keeps fun c ys ec=>?_,q,es,ep,hq,h2,h3,h4,h5⟩
  rw [zap (zjo ec e (fun z=>nomatch z))]
  exact ec
end
section
variable {X:Cx} {pins:List (Addr × Obj)} {σ:St} {H:Hp} {s:Shared} {a:Addr} {kvs:List (Key × V)} {k:Key} {u:Value} {A:Around} {E:Value→Shared→Prop}
end
def NoSl (i:Expr):Prop:=∀ov iv,subscripted i false ov iv=operate [ov,iv] (getItem ov iv)
theorem zk8 {prog:Program} {w:World} {A:Around} {E:Value→Shared→Prop} {s:Shared} {env:Env} {value slice:Expr} {pos:Pos} {T id:String} {Q:Value→Shared→Prop}
  (hl:typeLookup (.type T) "__getitem__" = pure (some (.builtin id))) (hs:NoSl slice)
  (h:wpAny (model prog w) A (eval value env) (fun o s₁=>wpAny (model prog w) A (eval slice env) (fun i s₂=>s₂.TypeIs o T∧wpAny (model prog w) A (getItem o i) Q E s₂) E s₁) E s):
  wpAny (model prog w) A (eval (.Subscript value slice pos) env) Q E s:=by
 refine Subscript_ (wpAny_mono h (fun o s₁ h₁=>wpAny_mono h₁ (fun i s₂ h₂=>?_) fun _ _ x=>x) fun _ _ x=>x)
 obtain ⟨hT,h₂⟩:=h₂
 unfold subscriptTail
 refine wpAny_bind ?_
 rw [getitemInPython_of_ne hT.not_modules]
 refine wpAny_bind (wpAny_specialOf hT hl ?_)
 have fin:wpAny (model prog w) A (subscripted slice false o i) (fun r s₃=>wpAny (model prog w) A (letTemporaryGo value o r >>= fun _=>pure r) Q E s₃) E s₂:=by
  rw [hs o i]
  exact wpAny_operating (wpAny_mono h₂ (fun r s₃ h₃=>wpAny_bind (wpAny_letTemporaryGo (wpAny_pure h₃))) fun _ _ x=>x)
 first
  | exact wpAny_pure (wpAny_bind fin)
  | exact wpAny_bind (wpAny_pure (wpAny_bind fin))
  | exact wpAny_bind fin
theorem zge {X:Cx} {pins:List (Addr × Obj)} {σ:St} {H:Hp} {s:Shared} {a:Addr} {y:V} {o:Option V} (I:Inv X pins σ H s) (g:DGet H a y o):s.TypeIs (.ref a) "dict" := by
 rcases g with ⟨kvs,k,e,_,_⟩ | ⟨kvs,k,b,e,_,_,_⟩
 ·obtain ⟨_,_,vs,_,dd⟩:=zhz I.hok e
  exact dd.typeIs
 ·obtain ⟨_,_,xs,_,dd⟩:=zh9 I.hok e
  exact dd.typeIs
def zme (td ty:TE):TE:=fun σ H Q=>td σ H fun x H1=>ty σ H1 fun y H2=>∃a v,x=.ref a∧DGet H2 a y (some v)∧Q v H2
def zna (td ty tv:TE):TS:=fun D σ H=>tv σ H fun v H1=>td σ H1 fun x H2=>ty σ H2 fun y H3=>∃a H4,x=.ref a∧DPut H3 a y v H4∧D.nx σ H4
section
variable {X:Cx} {o i e value:Expr} {pos pos' tpos:Pos} {td ty tv:TE}
theorem zct (hu:X.A.units+1<cLine) (ho:PE X o td) (hi:PE X i ty) (hs:NoSl i):PE X (.Subscript o i pos) (zme td ty):=by
 with_unfolding_all
  intro pins s σ H Q I h
  refine zk8 PySem.F.slot_dict_getitem.lookup hs (thn (ho pins s σ H _ I h) fun u s1 ⟨x,H1,I1,rx,q1⟩=>thn (hi pins s1 σ H1 _ I1 q1) fun iv s2 ⟨y,H2,I2,ry,a,v,ex,g,q2⟩=>?_)
  subst ex
  obtain rfl:u=Value.ref a:=rx
  exact ⟨zge I2 g,zia hu I2 g ry fun w' s3 I3 rw'=>⟨v,H2,I3,rw',q2⟩⟩
theorem zid (hu:X.A.units+1<cLine) (ho:PE X o td) (hi:PE X i ty) (hv:PE X value tv) (hs:swapsWith value (some (.Subscript o i pos')) pos.line X.env=pure false):
  PS X (.Assign [.Subscript o i pos'] value pos) (zna td ty tv):=by
 with_unfolding_all
  intro pins s σ H D I h
  refine wpAny_Assign_Subscript (thn (hv pins s σ H _ I h) fun r s1 ⟨v,H1,I1,rv,q1⟩=>thn (ho pins s1 σ H1 _ I1 q1) fun u s2 ⟨x,H2,I2,rx,q2⟩=>thn (hi pins s2 σ H2 _ I2 q2) fun iv s3 ⟨y,H3,I3,ry,a,H4,ex,g,q3⟩=>?_) hs
  subst ex
  obtain rfl:u=Value.ref a:=rx
  exact zic hu I3 g ry rv fun s4 I4=>⟨σ,H4,I4,q3⟩
end
theorem zjB {P:Program} {w:World} {H:Hp} (h:Heap) (hb:sysModules<h.objs.size):zbJ P w H (h.push { cls:=.type "dict",data:=.dict #[] }) h.objs.size (.dK []):=
 ⟨Nat.zero_le _,beq_eq_false_iff_ne.mpr (Ne.symm (Nat.ne_of_lt hb)),[],.nil,Heap.DictOf.new h⟩
def zmf:TE:=fun _ H Q=>∀p,H p=none→Q (.ref p) (upd H p (.dK []))
section
variable {X:Cx} {pos:Pos}
theorem zjC:PE X (.Dict [] [] pos) zmf:=by
 with_unfolding_all
  exact fun pins s σ H Q I h=>
   wpAny_Dict_empty ⟨.ref s.heap.objs.size,_,I.laid (a:=s.heap.objs.size) (o:=.dK []) (t':=s.toks) (fun _ _ q=>Heap.get?_push_of_some _ q) (Nat.le_refl _) (zjB s.heap I.big),rfl,h _ (I.hok.fresh (Nat.le_refl _))⟩
end
structure M1 (X:Cx) (o:Expr) (m:Str) (apos:Pos) (e:Expr) (cpos:Pos):Prop where
 base:attributeBase o m X.env (eval o X.env)=eval o X.env
 few:((backTo cpos (starEach [e] X.env)).all (fun x => !x.1)&&(backToKw cpos (keywordEach [] X.env)).all (fun x=>x.1.isSome)
  && decide (([e]:List Expr).length+([]:List Keyword).length+(if ([]:List Keyword).isEmpty then 0 else 1)<30))=true
 line:(apos.endLine==cpos.line)=true
 trees:backTo cpos (starEach [e] X.env)=[(false,eval e X.env)]
structure M2 (X:Cx) (o:Expr) (m:Str) (apos:Pos) (e f:Expr) (cpos:Pos):Prop where
 base:attributeBase o m X.env (eval o X.env)=eval o X.env
 few:((backTo cpos (starEach [e,f] X.env)).all (fun x => !x.1)&&(backToKw cpos (keywordEach [] X.env)).all (fun x=>x.1.isSome)
  && decide (([e,f]:List Expr).length+([]:List Keyword).length+(if ([]:List Keyword).isEmpty then 0 else 1)<30))=true
 line:(apos.endLine==cpos.line)=true
 trees:backTo cpos (starEach [e,f] X.env)=[(false,eval e X.env),(false,eval f X.env)]
def IsD (H:Hp) (a:Addr):Prop:=(∃kvs,Rd H a (.dK kvs))∨∃kvs,Rd H a (.dT kvs)
theorem zmg {X:Cx} {pins:List (Addr × Obj)} {σ:St} {H:Hp} {s:Shared} {a:Addr} (I:Inv X pins σ H s) (d:IsD H a):
  s.TypeIs (.ref a) "dict" ∧ (∀b,Value.ref a=.ref b→∃ob,s.heap.get? b=some ob∧ob.dict=none)∧(a==sysModules)=false:=by
 rcases d with ⟨kvs,e⟩ | ⟨kvs,e⟩
 ·obtain ⟨_,hd,vs,_,dd⟩:=zhz I.hok e
  refine ⟨dd.typeIs,fun b q=>?_,hd⟩
  cases q
  obtain ⟨ob,_,_,h1,h2,_⟩:=dd
  exact ⟨ob,h1,h2.2.1⟩
 ·obtain ⟨_,hd,xs,_,dd⟩:=zh9 I.hok e
  refine ⟨dd.typeIs,fun b q=>?_,hd⟩
  cases q
  obtain ⟨ob,_,_,h1,h2,_⟩:=dd
  exact ⟨ob,h1,h2.2.1⟩
section
variable {X:Cx} {pins:List (Addr × Obj)} {σ:St} {H:Hp} {s:Shared} {a:Addr} {y d:V} {u r:Value} {o:Option V} {A:Around} {E:Value→Shared→Prop}
theorem zmh {Q:Value→Shared→Prop} (hu:A.units+1<cLine) (I:Inv X pins σ H s) (g:DGet H a y o) (ry:RelV y u) (rd:RelV d r) (h:∀w' s',Inv X pins σ H s'→RelV (o.getD d) w'→Q w' s'):
  wpAny (model X.prog X.w) A (call (.builtin "dict.get") [.ref a,u,r]) Q E s:=by
 rcases g with ⟨kvs,k,e,ey,l⟩ | ⟨kvs,k,b,e,ey,eb,l⟩
 ·subst ey
  obtain ⟨z,hd,vs,rel,dd⟩:=zhz I.hok e
  refine call_meetsIn PySem.F.slot_dict_get dd.typeIs PySem.F.entry_dict_get (PySem.F.args_dict_get_3 _ _ _) (meets_dict_get_default (zaI X.prog X.w) a (zjA ry) hd r) ⟨_,dd.mapOf,h _ _ (I.tok _) ?_⟩
  rw [l]
  exact (rel.val k).getD rd
 ·subst ey
  cases (show u=Value.ref b from ry)
  obtain ⟨z,hd,xs,rel,dd⟩:=zh9 I.hok e
  refine call_meetsIn PySem.F.slot_dict_get dd.typeIs PySem.F.entry_dict_get (PySem.F.args_dict_get_3 _ _ _) (meetsH_dict_get_default (tupleKind (zaI X.prog X.w)) a b hd r) ⟨tupleKind_room_in1 hu,k,xs,zgU I.hok eb,dd,h _ _ (I.tok _) ?_⟩
  rw [l]
  exact (rel.val k).getD rd
end
def zmi (td ty tx:TE):TE:=fun σ H Q=>td σ H fun x H1=>∃a,x=.ref a∧IsD H1 a∧ty σ H1 fun y H2=>tx σ H2 fun z H3=>∃o,DGet H3 a y o∧Q (o.getD z) H3
section
variable {X:Cx} {o e f:Expr} {apos cpos:Pos} {td ty tx:TE}
theorem zdM (hu:X.A.units+1<cLine) (ho:PE X o td) (he:PE X e ty) (hf:PE X f tx) (m:M2 X o "get" apos e f cpos):PE X (.Call (.Attribute o "get" apos) [e,f] [] cpos) (zmi td ty tx):=by
 with_unfolding_all
  intro pins s σ H Q I h
  refine wpAny_Call_method m.base m.few m.line PySem.F.plainAttrs_dict PySem.F.slot_dict_get PySem.F.type_dict_get (thn (ho pins s σ H _ I h) fun u s1 ⟨x,H1,I1,rx,a,ex,d,q1⟩=>?_)
  subst ex
  obtain rfl:u=Value.ref a:=rx
  obtain ⟨t1,t2,_⟩:=zmg I1 d
  refine ⟨t1,t2,?_⟩
  rw [m.trees]
  refine Calls.callWith_builtin rfl (Calls.evalArgs_plain (Calls.spliced_cons (thn (he pins s1 σ H1 _ I1 q1) fun iv s2 ⟨y,H2,I2,ry,q2⟩=>
   Calls.spliced_cons (thn (hf pins s2 σ H2 _ I2 q2) fun fv s3 ⟨z,H3,I3,rz,ov,g,q3⟩=>Calls.spliced_nil ?_))))
  exact zmh hu I3 g ry rz fun w' s4 I4 rw'=>⟨_,H3,I4,rw',q3⟩
end
section
variable {X:Cx} {pins:List (Addr × Obj)} {σ:St} {H:Hp} {s:Shared} {a:Addr} {kvs:List (Key × V)} {A:Around} {E:Value→Shared→Prop}
end
section
variable {X:Cx} {pins:List (Addr × Obj)} {σ:St} {H:Hp} {s:Shared} {a:Addr} {y:V} {u:Value} {A:Around} {E:Value→Shared→Prop}
end
end L2
namespace HT
open PySem PyProof.Rows
def lexLt:List Int→List Int→Bool
 | [],[]=>false
 | [],_::_=>true
 | _::_,[]=>false
 | x::xs,y::ys=>if x=y then lexLt xs ys else decide (x<y)
theorem lexLt_cons (x y:Int) (xs ys:List Int):lexLt (x::xs) (y::ys)=if x=y then lexLt xs ys else decide (x<y):=rfl
theorem lexLt_nil_nil:lexLt [] []=false:=rfl
section
open PySem.SeqAt
open PySem.AutoSeq1 (wpAny_loadPart')
open PySem.MeetsSeq PySem.MeetsSeq2 PySem.MeetsSeq3
end
section
variable {prog:Program} {w:World} {A:Around} {E:Value→Shared→Prop} {s:Shared}
def sIx (n d:Nat):Option Int→Nat
 | none=>d
 | some v=>if v<0 then (v+(n:Int)).toNat else min v.toNat n
theorem sIx_none (n d:Nat):sIx n d none=d:=rfl
theorem sIx_nat (n d k:Nat):sIx n d (some (k:Int))=min k n:=by
 show (if (k:Int)<0 then ((k:Int)+(n:Int)).toNat else min (k:Int).toNat n)=min k n
 rw [if_neg (by omega),Int.toNat_natCast]
end
end HT
namespace L2
open PySem PySem.Spec PyProof.Rows
abbrev TO:=St→Hp→(Option Int→Hp→Prop)→Prop
def PO (X:Cx) (e:Option Expr) (t:TO):Prop:=
 ∀(pins:List (Addr × Obj)) (s:Shared) (σ:St) (H:Hp) (Q:Option Int→Hp→Prop),Inv X pins σ H s→t σ H Q→
  wpAny (model X.prog X.w) X.A (evalPart e X.env) (fun u s'=>∃o H',Inv X pins σ H' s'∧IsPart u o∧Q o H') X.xe s
def zk9:TO:=fun _ H Q=>Q none H
def znb (t:TE):TO:=fun σ H Q=>t σ H fun x H1=>∃i,x=.int i∧Q (some i) H1
theorem zc9 {ns:List Int}:∀ {us:List Value},Vals (ns.map V.int) us→IntsAre us ns:=by
 induction ns with
 | nil=>intro us r;rw [List.map_nil] at r;cases r;exact .nil
 | cons n ns ih=>
   intro us r
   rw [List.map_cons] at r
   cases r with
   | cons r1 r2=>
     obtain ⟨t,e⟩:=r1
     subst e
     exact .cons n t (ih r2)
section
variable {X:Cx} {e:Expr} {te:TE} {lo hi:Option Expr} {tl th:TO} {pos p2:Pos}
theorem zgf:PO X none zk9:=by
 intro pins s σ H Q I h
 rw [evalPart_none]
 exact wpAny_pure ⟨none,H,I,.none,h⟩
theorem zdW (h:PE X e te):PO X (some e) (znb te):=by
 with_unfolding_all
  intro pins s σ H Q I hw
  rw [evalPart_some]
  refine thn (h pins s σ H _ I hw) fun u s1 ⟨x,H1,I1,r1,q1⟩=>?_
  obtain ⟨i,rfl,q⟩:=q1
  obtain ⟨t,rfl⟩:=r1
  exact ⟨some i,H1,I1,.int i t,q⟩
def SlR (X:Cx) (r:V→Option Int→Option Int→Hp→VK→Prop):Prop:=
 ∀(pins:List (Addr × Obj)) (s:Shared) (σ:St) (H:Hp) (x:V) (v vl vu:Value) (lo hi:Option Int) (sl:Addr) (Q:VK),Inv X pins σ H s→RelV x v→s.heap.IsSliceOf sl vl vu .none→IsPart vl lo→IsPart vu hi→r x lo hi H Q→
  ∃T id,typeLookup (.type T) "__getitem__" = pure (some (.builtin id))∧s.TypeIs v T∧wpAny (model X.prog X.w) X.A (getItem v (.ref sl)) (EP X pins σ Q) X.xe s
def tSl (r:V→Option Int→Option Int→Hp→VK→Prop) (te:TE) (tl th:TO):TE:=fun σ H Q=>te σ H fun x H1=>tl σ H1 fun l H2=>th σ H2 fun u H3=>r x l u H3 Q
theorem zdN {r:V→Option Int→Option Int→Hp→VK→Prop} (hr:SlR X r) (he:PE X e te) (hl:PO X lo tl) (hu:PO X hi th):PE X (.Subscript e (.Slice lo hi none p2) pos) (tSl r te tl th):=by
 with_unfolding_all
  intro pins s σ H Q I h
  refine Subscript_ (thn (he pins s σ H _ I h) fun v s1 ⟨x,H1,I1,r1,q1⟩=>?_)
  refine wpAny_Slice (thn (hl pins s1 σ H1 _ I1 q1) fun vl s2 ⟨l,H2,I2,pl,q2⟩=>thn (hu pins s2 σ H2 _ I2 q2) fun vu s3 ⟨u,H3,I3,pu,q3⟩=>?_)
  rw [evalPart_none]
  refine wpAny_pure ?_
  have I4:Inv X pins σ H3 { s3 with heap:=s3.heap.push { cls:=.type "slice",data:=.fields #[vl,vu,.none] } }:=I3.kept (t':=s3.toks) fun b ob q=>Heap.get?_push_of_some _ q
  obtain ⟨T,id,hT,ht,hg⟩:=hr pins { s3 with heap:=s3.heap.push { cls:=.type "slice",data:=.fields #[vl,vu,.none] } } σ H3 x v vl vu l u s3.heap.objs.size Q I4 r1 (Heap.IsSliceOf.new ..) pl pu q3
  show wpAny (model X.prog X.w) X.A (subscriptTail e (.Slice lo hi none p2) v (.ref s3.heap.objs.size)) (EP X pins σ Q) X.xe { s3 with heap:=s3.heap.push { cls:=.type "slice",data:=.fields #[vl,vu,.none] } }
  exact tail_any (ops:=[.ref s3.heap.objs.size,v]) ht hT hg (by with_unfolding_all rfl)
def cutV (xs:List V) (lo hi:Option Int):List V:=(xs.drop (HT.sIx xs.length 0 lo)).take (HT.sIx xs.length xs.length hi-HT.sIx xs.length 0 lo)
theorem zcg (xs:List V) (lo hi:Option Int):(cutV xs lo hi).length≤xs.length:=by
 unfold cutV
 rw [List.length_take,List.length_drop]
 omega
end
end L2
namespace L2
open PySem PySem.Spec PyProof.Rows
def ixN (n:Nat) (i:Int):Option Nat:=if 0≤i then (if i<n then some i.toNat else none) else if -(n:Int)≤i then some (i+n).toNat else none
def atI {α:Type} (xs:List α) (i:Int):Option α:=(ixN xs.length i).bind fun j=>xs[j]?
theorem zla {n:Nat} {i:Int} {j:Nat} (h:ixN n i=some j):seqIndex? i n=some j∧j<n ∧ -(n:Int)≤i∧i<n:=by
 unfold ixN at h
 by_cases h0:0≤i
 ·rw [if_pos h0] at h
  by_cases h1:i<n
  ·rw [if_pos h1] at h
   have e:i.toNat=j:=Option.some.inj h
   exact ⟨by rw [seqIndex_of h0 h1,e],by omega,by omega,h1⟩
  ·rw [if_neg h1] at h;cases h
 ·rw [if_neg h0] at h
  by_cases h1 : -(n:Int)≤i
  ·rw [if_pos h1] at h
   have e:(i+n).toNat=j:=Option.some.inj h
   exact ⟨by rw [seqIndex_neg (by omega) h1,e],by omega,h1,by omega⟩
  ·rw [if_neg h1] at h;cases h
theorem zie {α:Type} {xs:List α} {i:Int} {v : α} (h:atI xs i=some v):∃j,seqIndex? i xs.length=some j∧xs[j]?=some v∧j<xs.length ∧ -(xs.length:Int)≤i∧i<xs.length:=by
 unfold atI at h
 cases e:ixN xs.length i with
 | none=>rw [e] at h;cases h
 | some j=>
   rw [e] at h
   obtain ⟨h1,h2,h3,h4⟩:=zla e
   exact ⟨j,h1,h,h2,h3,h4⟩
theorem zlb {α:Type} {xs:List α} {j:Nat} {v : α} (h:xs[j]?=some v):atI xs (j:Int)=some v:=by
 have hj:j<xs.length:=(List.getElem?_eq_some_iff.mp h).1
 have e:ixN xs.length (j:Int)=some j:=by
  unfold ixN
  rw [if_pos (by omega),if_pos (by omega)];simp
 unfold atI;rw [e];exact h
def zlc (b:Expr):Prop:=∀o i,subscripted b false o i=operate [o,i] (getItem o i)
def IxR (X:Cx) (r:R2):Prop:=
 ∀(value slice:Expr) (pins:List (Addr × Obj)) (s:Shared) (σ:St) (H:Hp) (x y:V) (v u:Value) (Q:VK),Inv X pins σ H s→RelV x v→RelV y u→r x y H Q→
  subscripted slice false v u=operate [v,u] (getItem v u)→wpAny (model X.prog X.w) X.A (subscriptTail value slice v u) (EP X pins σ Q) X.xe s
def MtR (X:Cx) (id:String) (r:V→List V→Hp→VK→Prop):Prop:=
 ∀(pins:List (Addr × Obj)) (s:Shared) (σ:St) (H:Hp) (x:V) (xs:List V) (v:Value) (us:List Value) (Q:VK),Inv X pins σ H s→RelV x v→Vals xs us→r x xs H Q→
  wpAny (model X.prog X.w) X.A (call (.builtin id) (v::us)) (EP X pins σ Q) X.xe s
section
variable {X:Cx} {a b:Expr} {ta tb:TE} {pos:Pos}
theorem zau {r:R2} (hr:IxR X r) (ha:PE X a ta) (hb:PE X b tb) (hs:zlc b):PE X (.Subscript a b pos) (tOp r ta tb):=by
 with_unfolding_all
  intro pins s σ H Q I h
  exact Subscript_ (binT ha hb I h fun v u s2 x y H2 I2 rx ry q=>hr a b pins s2 σ H2 x y v u Q I2 rx ry q (hs _ _))
def rIxL (K:PySem.W.Frag):R2:=fun x y H Q=>∃p xs i v,x=.ref p∧y=.int i∧SqL K H p xs∧atI xs i=some v∧Q v H
def rIxT (K:PySem.W.Frag):R2:=fun x y H Q=>∃p xs i v,x=.ref p∧y=.int i∧SqT K H p xs∧atI xs i=some v∧Q v H
theorem zch:IxR X (rIxL X.K):=by
 intro value slice pins s σ H x y v u Q I rx ry h hs
 obtain ⟨p,xs,i,z,rfl,rfl,hq,he,q⟩:=h
 cases rx
 obtain ⟨t,rfl⟩:=ry
 obtain ⟨its,r,pl,hz⟩:=I.list hq
 obtain ⟨j,h1,h2,h3,h4,h5⟩:=zie he
 obtain ⟨w,ew,rw'⟩:=r.get h2
 have hl:=r.length
 have hn:=zh5
 have fin:EP X pins σ Q w s:=⟨z,H,I,rw',q⟩
 by_cases h0:0≤i
 ·have hj:i.toNat=j:=by
   rw [seqIndex_of h0 h5] at h1
   exact Option.some.inj h1
  exact item_listR pl.isList h0 (by omega) (by rw [hj];simpa using ew) fin hs
 ·have hj:(i+(its.toArray.size:Int)).toNat=j:=by
   rw [seqIndex_neg (by omega) h4] at h1
   rw [List.size_toArray,←hl]
   exact Option.some.inj h1
  exact subscriptTail_builtinR (x:=w) pl.isList.typeIs slot_list_getitem.lookup
   (wpAny_getItem_list_neg (Q:=fun r s'=>r=w∧EP X pins σ Q r s') pl.isList (by omega) (by rw [List.size_toArray]<;>omega) (by omega) (by rw [hj];simpa using ew) ⟨rfl,fin⟩) hs
theorem zao:IxR X (rIxT X.K):=by
 intro value slice pins s σ H x y v u Q I rx ry h hs
 obtain ⟨p,xs,i,z,rfl,rfl,hq,he,q⟩:=h
 cases rx
 obtain ⟨t,rfl⟩:=ry
 obtain ⟨its,r,pl,hz⟩:=I.tuple hq
 obtain ⟨j,h1,h2,h3,h4,h5⟩:=zie he
 obtain ⟨w,ew,rw'⟩:=r.get h2
 have hl:=r.length
 have hn:=zh5
 have fin:EP X pins σ Q w s:=⟨z,H,I,rw',q⟩
 exact subscriptTail_builtinR (x:=w) pl.typeIs slot_tuple_getitem.lookup
  (getItem_tuple (j:=j) (Q:=fun r s'=>r=w∧EP X pins σ Q r s') pl (by omega) (by omega) (by rw [List.size_toArray,←hl];exact h1) (by simpa using ew) ⟨rfl,fin⟩) hs
theorem zfA (lo hi:Option Int) (n:Nat):(sliceBounds lo hi none n).1=((HT.sIx n 0 lo:Nat):Int)∧(sliceBounds lo hi none n).2.1=((HT.sIx n n hi:Nat):Int)∧(sliceBounds lo hi none n).2.2=1:=by
 refine ⟨?_,?_,rfl⟩
 ·cases lo with
  | none=>simp [sliceBounds,HT.sIx]
  | some i=>
    simp only [sliceBounds,HT.sIx,Option.getD_none,show (1:Int) > 0 by decide,if_true]
    by_cases h:i<0
    ·simp only [h,if_true]<;>omega
    ·simp only [h,if_false]<;>omega
 ·cases hi with
  | none=>simp [sliceBounds,HT.sIx]
  | some i=>
    simp only [sliceBounds,HT.sIx,Option.getD_none,show (1:Int) > 0 by decide,if_true]
    by_cases h:i<0
    ·simp only [h,if_true]<;>omega
    ·simp only [h,if_false]<;>omega
theorem zeR (its:List Value) (lo hi:Option Int):slicePick its.toArray lo hi none=((its.drop (HT.sIx its.length 0 lo)).take (HT.sIx its.length its.length hi-HT.sIx its.length 0 lo)).toArray:=by
 obtain ⟨h1,h2,h3⟩:=zfA lo hi its.toArray.size
 unfold slicePick
 rw [h1,h2,h3]
 simp only [sliceRange_one,pick_run,List.size_toArray]<;>rfl
def rSlL (K:PySem.W.Frag):V→Option Int→Option Int→Hp→VK→Prop:=fun x lo hi H Q=>∃a xs,x=.ref a∧SqL K H a xs∧∀p,H p=none→Q (.ref p) (upd H p (.lst (cutV xs lo hi)))
theorem zld:SlR X (rSlL X.K):=by
 intro pins s σ H x v vl vu lo hi sl Q I rx hs pl pu h
 obtain ⟨a,xs,rfl,hx,q⟩:=h
 cases rx
 obtain ⟨its,r,ht,hz⟩:=I.list hx
 have hlen:=r.length
 refine ⟨"list",_,slot_list_getitem.lookup,ht.isList.typeIs,?_⟩
 refine wpAny_getItem_list_slice ht.isList hs pl pu .none (by simp) ?_ (by rw [List.size_toArray]<;>omega)
 rw [zeR,←hlen]
 refine ⟨.ref s.heap.objs.size,_,I.laid (t':=s.toks) (o:=.lst (cutV xs lo hi)) (fun b ob q=>Heap.get?_push_of_some _ q) (Nat.le_refl _) ?_,rfl,q _ (I.hok.fresh (Nat.le_refl _))⟩
 exact ⟨Nat.le_trans (zcg xs lo hi) hz,_,0,(r.drop (HT.sIx xs.length 0 lo)).take (HT.sIx xs.length xs.length hi-HT.sIx xs.length 0 lo),Heap.get?_push_size _ rfl⟩
def zcL:V→Bool
 | .non=>true
 | .bl _=>true
 | .int _=>true
 | .str _=>true
 | _=>false
def eqV:V→V→Bool
 | .non,.non=>true
 | .bl a,.bl b=>a==b
 | .bl a,.int b=>(if a then 1 else 0)==b
 | .int a,.bl b=>a==(if b then 1 else 0)
 | .int a,.int b=>a==b
 | .str a,.str b=>a==b
 | _,_=>false
theorem zku {A:Around} {s:Shared} {y x:V} {u v:Value} (ry:RelV y u) (rx:RelV x v) (fy:zcL y=true) (fx:zcL x=true):SeqAt.EqAt A s u v (eqV y x):=by
 cases y with
 | non=>
   cases ry
   cases x with
   | non=>cases rx;exact SeqAt.EqAt.same _
   | bl b=>cases rx;exact SeqAt.EqAt.none_bool b
   | int b=>obtain ⟨t,rfl⟩:=rx;exact SeqAt.EqAt.none_int b t
   | str b=>obtain ⟨t,rfl⟩:=rx;exact SeqAt.EqAt.none_str b t
   | _=>exact absurd (show false=true from fx) Bool.false_ne_true
 | bl a=>
   cases ry
   cases x with
   | non=>cases rx;exact SeqAt.EqAt.bool_none a
   | bl b=>cases rx;exact SeqAt.EqAt.bool_bool a b
   | int b=>obtain ⟨t,rfl⟩:=rx;exact SeqAt.EqAt.bool_int a b t
   | str b=>obtain ⟨t,rfl⟩:=rx;exact SeqAt.EqAt.bool_str a b t
   | _=>exact absurd (show false=true from fx) Bool.false_ne_true
 | int a=>
   obtain ⟨t',rfl⟩:=ry
   cases x with
   | non=>cases rx;exact SeqAt.EqAt.int_none a t'
   | bl b=>cases rx;exact SeqAt.EqAt.int_bool a t' b
   | int b=>obtain ⟨t,rfl⟩:=rx;exact SeqAt.EqAt.int_int a t' b t
   | str b=>obtain ⟨t,rfl⟩:=rx;exact SeqAt.EqAt.int_str a t' b t
   | _=>exact absurd (show false=true from fx) Bool.false_ne_true
 | str a=>
   obtain ⟨t',rfl⟩:=ry
   cases x with
   | non=>cases rx;exact SeqAt.EqAt.str_none a t'
   | bl b=>cases rx;exact SeqAt.EqAt.str_bool a t' b
   | int b=>obtain ⟨t,rfl⟩:=rx;exact SeqAt.EqAt.str_int a t' b t
   | str b=>obtain ⟨t,rfl⟩:=rx;exact SeqAt.EqAt.str_str a t' b t
   | _=>exact absurd (show false=true from fx) Bool.false_ne_true
 | _=>exact absurd (show false=true from fy) Bool.false_ne_true
def eqU (x:V) (u:Value):Bool:=match u with
 | .none=>eqV .non x
 | .bool b=>eqV (.bl b) x
 | .int i _=>eqV (.int i) x
 | .str z _=>eqV (.str z) x
 | _=>false
theorem zkv {x y:V} {u:Value} (r:RelV y u) (f:zcL y=true):eqU x u=eqV y x:=by
 cases y with
 | non=>cases r;rfl
 | bl b=>cases r;rfl
 | int i=>obtain ⟨t,rfl⟩:=r;rfl
 | str z=>obtain ⟨t,rfl⟩:=r;rfl
 | _=>exact absurd (show false=true from f) Bool.false_ne_true
theorem zgg {x:V}:∀ {xs:List V} {us:List Value},Vals xs us→xs.all zcL=true→us.any (eqU x)=xs.any fun y=>eqV y x
 | _,_,.nil,_=>rfl
 | y::xs,u::us,.cons r t,f=>by
   rw [List.all_cons,Bool.and_eq_true] at f
   rw [List.any_cons,List.any_cons,zkv r f.1,zgg t f.2]
theorem zeS {A:Around} {s:Shared} {x:V} {v:Value} (rx:RelV x v) (fx:zcL x=true):∀ {xs:List V} {us:List Value},Vals xs us→xs.all zcL=true→∀u∈us,SeqAt.EqAt A s u v (eqU x u)
 | _,_,.nil,_=>fun u hu=>by cases hu
 | y::xs,u::us,.cons r t,f=>fun u' hu=>by
   rw [List.all_cons,Bool.and_eq_true] at f
   rcases List.mem_cons.mp hu with rfl | hu
   ·rw [zkv r f.1];exact zku r rx f.1 fx
   ·exact zeS rx fx t f.2 u' hu
def inV (x:V) (xs:List V):Bool:=xs.any fun y=>eqV y x
def rIn (K:PySem.W.Frag) (neg:Bool):R2:=fun x y H Q=>∃p xs,y=.ref p∧(SqL K H p xs∨SqT K H p xs)∧zcL x=true∧xs.all zcL=true∧Q (.bl (if neg then !inV x xs else inV x xs)) H
theorem zif:OpR X (compareOp .In) (rIn X.K false):=by
 intro pins s σ H x y v u Q I rx ry h
 obtain ⟨p,xs,rfl,hq,fx,fs,q⟩:=h
 cases ry
 rcases hq with hq | hq
 ·obtain ⟨its,r,pl,hz⟩:=I.list hq
  refine SeqAt.in_listAt (eqU x) pl.isList (fun w hw=>zeS rx fx r fs w (by simpa using hw)) ⟨.bl _,H,I,rfl,?_⟩
  rw [show its.toArray.any (eqU x)=its.any (eqU x) by simp,zgg r fs]
  exact q
 ·obtain ⟨its,r,pl,hz⟩:=I.tuple hq
  refine SeqAt.in_tupleAt (eqU x) pl (fun w hw=>zeS rx fx r fs w (by simpa using hw)) ⟨.bl _,H,I,rfl,?_⟩
  rw [show its.toArray.any (eqU x)=its.any (eqU x) by simp,zgg r fs]
  exact q
theorem zba:zdU X (.builtin "len") (fun xs H Q=>∃p ys,xs=[.ref p]∧(SqL X.K H p ys∨SqT X.K H p ys)∧Q (.int ys.length) H):=by
 intro pins s σ H xs us Q I r h
 obtain ⟨p,ys,rfl,hq,q⟩:=h
 obtain ⟨u,rfl,rx⟩:=zer r
 cases rx
 have hn:=zh5
 rcases hq with hq | hq
 ·obtain ⟨its,r',pl,hz⟩:=I.list hq
  have hlen:=r'.length
  exact Calls.call_len_list pl.isList (by simp only [List.size_toArray]<;>omega) ⟨.int ys.length,H,I.tok _,⟨s.toks+1,by rw [List.size_toArray,hlen]⟩,q⟩
 ·obtain ⟨its,r',pl,hz⟩:=I.tuple hq
  have hlen:=r'.length
  exact len_tuple pl (by simp only [List.size_toArray]<;>omega) ⟨.int ys.length,H,I.tok _,⟨s.toks+1,by rw [List.size_toArray,hlen]⟩,q⟩
def tyV (K:PySem.W.Frag) (T:String) (x:V) (H:Hp):Prop:=match x with
 | .str _=>T = "str"
 | .int _=>T = "int"
 | .ref p=>(T = "list" ∧ ∃xs,SqL K H p xs)∨(T = "tuple" ∧ ∃o,K.lookup p=some o∧o.cls=.type "tuple" ∧ o.dict=none) ∨
    (T = "dict" ∧ ((∃kvs,H p=some (.dK kvs))∨∃kvs,H p=some (.dT kvs)))∨(T = "set" ∧ ∃S n,H p=some (.set S n))
 | _=>False
theorem zkw {pins:List (Addr × Obj)} {σ:St} {H:Hp} {s:Shared} {T:String} {x:V} {v:Value} (I:Inv X pins σ H s) (r:RelV x v) (ty:tyV X.K T x H):
  s.TypeIs v T∧∀a,v=.ref a→∃ob,s.heap.get? a=some ob∧ob.dict=none:=by
 cases x with
 | str z=>
   obtain ⟨t,rfl⟩:=r
   cases (show T = "str" from ty)
   exact ⟨typeIs_str s z t,fun _ e=>nomatch e⟩
 | int i=>
   obtain ⟨t,rfl⟩:=r
   cases (show T = "int" from ty)
   exact ⟨typeIs_int s i t,fun _ e=>nomatch e⟩
 | ref p=>
   cases r
   rcases ty with ⟨rfl,xs,hq⟩ | ⟨rfl,o,hk,hc,hd⟩ | ⟨rfl,hk⟩ | ⟨rfl,S,n,hk⟩
   ·obtain ⟨its,_,pl,_⟩:=I.list hq
    refine ⟨pl.isList.typeIs,fun a e=>?_⟩
    cases e
    obtain ⟨o,n,e,c,hd,_⟩:=pl
    exact ⟨o,e,hd⟩
   ·refine ⟨⟨o,I.kIn p o hk,hc⟩,fun a e=>?_⟩
    cases e
    exact ⟨o,I.kIn _ o hk,hd⟩
   ·have z:∃o,s.heap.get? p=some o∧o.ExactDict:=by
     rcases hk with ⟨kvs,hk⟩ | ⟨kvs,hk⟩
     ·obtain ⟨_,_,_,_,o,_,_,e,ex,_⟩:=I.hok p _ hk
      exact ⟨o,e,ex⟩
     ·obtain ⟨_,_,_,_,o,_,_,e,ex,_⟩:=I.hok p _ hk
      exact ⟨o,e,ex⟩
    obtain ⟨o,e,ex⟩:=z
    refine ⟨⟨o,e,ex.1⟩,fun a e2=>?_⟩
    cases e2
    exact ⟨o,e,ex.2.1⟩
   ·obtain ⟨o,_,_,_,e,ex,_⟩:=I.hok p _ hk
    refine ⟨⟨o,e,ex.1⟩,fun a e2=>?_⟩
    cases e2
    exact ⟨o,e,ex.2.1⟩
 | _=>exact False.elim ty
def tBM0 (K:PySem.W.Frag) (T:String) (r:V→List V→Hp→VK→Prop) (to:TE):TE:=fun σ H Q=>to σ H fun x H1=>tyV K T x H1∧r x [] H1 Q
def tBM (K:PySem.W.Frag) (T:String) (r:V→List V→Hp→VK→Prop) (to:TE) (t:TA):TE:=fun σ H Q=>to σ H fun x H1=>tyV K T x H1∧t σ H1 fun xs H2=>r x xs H2 Q
variable {o e:Expr} {es:List Expr} {to:TE} {t:TA} {name:Str} {apos cpos:Pos} {T id:String} {r:V→List V→Hp→VK→Prop}
theorem zmj (pa:PlainAttrs T) (slot:Slot T name id) (hty:typeOf (.builtin id)=pure (.type "method_descriptor")) (hm:MtR X id r) (ho:PE X o to)
  (hbase:attributeBase o name X.env (eval o X.env)=eval o X.env:=by rfl) (hline:(apos.endLine==cpos.line)=true:=by rfl):PE X (.Call (.Attribute o name apos) [] [] cpos) (tBM0 X.K T r to):=by
 with_unfolding_all
  intro pins s σ H Q I h
  refine wpAny_Call_method0_late hbase hline (thn (ho pins s σ H _ I h) fun v s1 ⟨x,H1,I1,r1,ty,q1⟩=>?_)
  obtain ⟨h1,h2⟩:=zkw I1 r1 ty
  exact ⟨T,id,pa,slot,hty,h1,h2,Calls.callWith_builtin rfl (PySem.evalArgs_none (hm pins s1 σ H1 x [] v [] Q I1 r1 .nil q1))⟩
theorem zle (pa:PlainAttrs T) (slot:Slot T name id) (hty:typeOf (.builtin id)=pure (.type "method_descriptor")) (hm:MtR X id r) (ho:PE X o to) (ha:PA X (e::es) t)
  (hbase:attributeBase o name X.env (eval o X.env)=eval o X.env:=by rfl)
  (hfew:((backTo cpos (starEach (e::es) X.env)).all (fun x => !x.1)&&(backToKw cpos (keywordEach [] X.env)).all (fun x=>x.1.isSome)
    && decide ((e::es).length+([]:List Keyword).length+(if ([]:List Keyword).isEmpty then 0 else 1)<30))=true:=by rfl)
  (hline:(apos.endLine==cpos.line)=true:=by rfl) (hs:starEach (e::es) X.env=(false,eval e X.env)::starEach es X.env:=by rfl) (hplain:(backTo cpos (starEach es X.env)).any (·.1)=false:=by rfl):
  PE X (.Call (.Attribute o name apos) (e::es) [] cpos) (tBM X.K T r to t):=by
 with_unfolding_all
  intro pins s σ H Q I h
  refine wpAny_Call_method_late hbase hfew hline rfl (thn (ho pins s σ H _ I h) fun v s1 ⟨x,H1,I1,r1,ty,q1⟩=>?_)
  obtain ⟨h1,h2⟩:=zkw I1 r1 ty
  refine ⟨T,id,pa,slot,hty,h1,h2,?_⟩
  have hA:=ha cpos pins s1 σ H1 _ I1 q1
  rw [hs] at hA ⊢
  refine Calls.callWith_builtin (by show (false||(backTo cpos (starEach es X.env)).any (·.1))=false;rw [hplain]<;>rfl) (Calls.evalArgs_plain ?_)
  exact thn hA fun us s2 ⟨vs,H2,I2,r2,q2⟩=>hm pins s2 σ H2 x vs v us Q I2 r1 r2 q2
/- xs.append(e),list.index on a module's tuple .. are MtR facts of 06m -/
end
end L2
namespace L2
open PySem PySem.Spec PyProof.Rows
def MtM (X:Cx) (id:String) (r:V→List V→Hp→VK→Prop):Prop:=
 ∀(pins:List (Addr × Obj)) (s:Shared) (σ:St) (H:Hp) (x:V) (xs:List V) (v:Value) (us:List Value) (Q:VK),Inv X pins σ H s→RelV x v→Vals xs us→r x xs H Q→
  wpAny (model X.prog X.w) X.A (call (.builtin id) (v::us)) (EP X pins σ Q) X.xe s
theorem Vals.one:∀ {x:V} {us:List Value},Vals [x] us→∃u,us=[u]∧RelV x u
 | _,_,.cons r .nil=>⟨_,rfl,r⟩
theorem Vals.zero:∀ {us:List Value},Vals [] us→us=[]
 | _,.nil=>rfl
theorem Vals.reverse {xs:List V} {us:List Value} (h:Vals xs us):Vals xs.reverse us.reverse:=by
 induction h with
 | nil=>exact .nil
 | cons r t ih=>rw [List.reverse_cons,List.reverse_cons];exact Vals.append ih (.cons r .nil)
section
variable {X:Cx} {pins:List (Addr × Obj)} {σ:St} {H:Hp} {s:Shared} {l b:Addr} {xs ys zs:List V}
theorem Inv.lset {its its':List Value} {n:Nat} {f:Array Value→Array Value} {t':Nat} (I:Inv X pins σ H s) (hH:H l=some (.lst xs))
  (e:s.heap.get? l=some { cls:=.type "list",data:=.seq its.toArray n }) (hf:f its.toArray=its'.toArray) (hv:Vals ys its') (hz:ys.length≤sizeLine):
  Inv X pins σ (upd H l (.lst ys)) { s with heap:=s.heap.update l (Obj.mapSeq f),toks:=t' }:=by
 have q:=PySem.IsL.update e f
 rw [hf] at q
 refine I.write (x:=l) (e:=l) (by rw [hH];exact trivial) (.inl rfl) (fun b' u hb hu=>(Heap.get?_update_other s.heap (Obj.mapSeq f) (Ne.symm hb)).trans hu) ⟨_,q⟩ ?_
 exact ⟨hz,its',_,hv,q⟩
theorem Inv.lnew {its:List Value} {t':Nat} (I:Inv X pins σ H s) (hv:Vals ys its) (hz:ys.length≤sizeLine):
  Inv X pins σ (upd H s.heap.objs.size (.lst ys)) { s with heap:=s.heap.push { cls:=.type "list",data:=.seq its.toArray },toks:=t' }:=
 I.laid (fun _ _ q=>Heap.get?_push_of_some _ q) (Nat.le_refl _) ⟨hz,its,0,hv,Heap.get?_push_size _ rfl⟩
theorem Inv.fresh (I:Inv X pins σ H s):H s.heap.objs.size=none:=I.hok.fresh (Nat.le_refl _)
theorem Inv.lstM (I:Inv X pins σ H s) (hH:H l=some (.lst xs)):xs.length≤sizeLine∧∃(its:List Value) (n:Nat),Vals xs its∧xs.length=its.length∧s.heap.get? l=some { cls:=.type "list",data:=.seq its.toArray n }:=by
 obtain ⟨z,its,n,r,e⟩:=I.hok l _ hH
 exact ⟨z,its,n,r,r.length,e⟩
end
section
variable {X:Cx}
def zlf:V→List V→Hp→VK→Prop:=fun x vs H Q=>∃l xs y,x=.ref l∧vs=[y]∧H l=some (.lst xs)∧xs.length<sizeLine∧Q .non (upd H l (.lst (xs++[y])))
theorem zcZ:MtM X "list.append" zlf:=by
 intro pins s σ H x vs v us Q I rx rv h
 obtain ⟨l,xs,y,rfl,rfl,hH,hz,q⟩:=h
 cases rx
 obtain ⟨u,rfl,ru⟩:=rv.one
 obtain ⟨z,its,n,r,hl,e⟩:=I.lstM hH
 refine call_meets F.slot_list_append ⟨_,e,rfl⟩ F.entry_list_append (F.args_list_append_2 _ _) (PySem.list_append l its.toArray n u (by rw [List.size_toArray];omega)) ⟨e,?_⟩
 refine ⟨.non,_,I.lset (its':=its++[u]) hH e (by simp) (r.append (.cons ru .nil)) ?_,rfl,q⟩
 rw [List.length_append,List.length_singleton]
 omega
def zjD:V→List V→Hp→VK→Prop:=fun x vs H Q=>∃l xs,x=.ref l∧vs=[]∧H l=some (.lst xs)∧Q .non (upd H l (.lst xs.reverse))
theorem zhA:MtM X "list.reverse" zjD:=by
 intro pins s σ H x vs v us Q I rx rv h
 obtain ⟨l,xs,rfl,rfl,hH,q⟩:=h
 cases rx
 have hus:=rv.zero
 subst hus
 obtain ⟨z,its,n,r,hl,e⟩:=I.lstM hH
 refine call_meets F.slot_list_reverse ⟨_,e,rfl⟩ F.entry_list_reverse (F.args_list_reverse_1 _) (AutoSeq1.list_reverse_list_0 l its.toArray n (by rw [List.size_toArray];omega)) ⟨e,?_⟩
 refine ⟨.non,_,I.lset (its':=its.reverse) hH e (by simp) r.reverse ?_,rfl,q⟩
 rw [List.length_reverse]
 omega
end
section
variable {prog:Program} {w:World} {A:Around} {E:Value→Shared→Prop} {s:Shared}
set_option maxRecDepth 100000 in
end
section
variable {X:Cx}
end
end L2
namespace Att
open PySem PySem.W PySem.Calls PyProof.Rows
theorem zdX {P:Params} {h:Heap}:∀(ns:List Int) (vs:List Value),WellAll P h vs (ns.map WData.int)→IntsAre vs ns:=by
 intro ns
 induction ns with
 | nil=>
   intro vs w
   rw [List.map_nil] at w
   cases w
   exact .nil
 | cons n ns ih=>
   intro vs w
   rw [List.map_cons] at w
   cases w with
   | cons a b=>
     cases a
     exact .cons _ _ (ih _ b)
theorem zig {l:OpenLaw} {n:Nat} (hn:l.most=some n) {P:Params} {h:Heap} {args:List WData} {vals:List Value}
  (hpre:l.row.toRowW.claim.pre args=true) (hwl:WellAll P h vals args):
  ∃a vs ns,vals=[Value.ref a]∧args=[WData.list (ns.map WData.int)]∧h.get? a=some { cls:=.type "list",data:=.seq vs.toArray }∧IntsAre vs ns∧ns.length≤n:=by
 have hsh:WShape.hasAll [] args [.list .int]=true:=(pre_splitW hpre).1
 have hc:l.pre.holds [] { args:=args }=true:=(pre_splitW hpre).2
 obtain ⟨d,r,rfl,h1,h2⟩:=hasAllW_cons hsh
 obtain rfl:=hasAllW_nil h2
 obtain ⟨xs,rfl,h3⟩:=hasW_list h1
 obtain ⟨ns,rfl⟩:=items_int h3
 have hlen:ns.length≤n:=by
  unfold OpenLaw.pre at hc
  have h4:(WTm.not (.lt (.lit (.int (n:Int))) (.len (.arg 0)))).holds [] { args:=[.list (ns.map .int)] }=true:=by
   have h4:=(holds_andW hc).1
   rw [hn] at h4
   exact h4
  have h5:=condW_of h4 (w_not (w_lt w_lit (w_len_list (w_arg rfl))))
  rw [List.length_map] at h5
  refine Nat.le_of_not_lt fun q=>?_
  have q':(n:Int)<((ns.length:Nat):Int):=by omega
  first
   | (rw [decide_eq_true q'] at h5;exact absurd h5 (by decide))
   | (simp at h5;omega)
 cases hwl with
 | cons w1 w2=>
   cases w2
   cases w1 with
   | list ho hall=>exact ⟨_,_,ns,rfl,rfl,ho,zdX ns _ hall,hlen⟩
theorem zih (l:OpenLaw) (args:List WData):l.row.toRowW.claim.post args (.bool true) args=true:=
 postW_of (r:=l.row.toRowW) (X:=(true==true))
  (show WShape.has [] (.bool true) .bool=true by first | rfl | decide | simp [WShape.has,WShape.arms,WShape.armsAll])
  (show (WTm.eq .res (.lit (.bool true))).value [] { args:=args,res:=some (.bool true),after:=args }=some (.bool (true==true)) from w_eq_bool (w_res rfl) w_lit) rfl
theorem attach_call {l:OpenLaw} {n:Nat} {q:Program} {loose:List Str} {XP:(Str→Option Value)→Heap→Prop} {YP:World→Heap→Prop} {d:DefRec}
  (hn:l.most=some n) (hdf:d.params.defaults=[])
  (call:∀(w:World) (s₀ s₁:Shared) (mg mb:Str→Option Value) (fa:Addr) (o:Obj) (pm cd doc:Value) (a:Addr) (vs:List Value) (ns:List Int),
    Ground q loose [] XP w s₀ mg mb s₁.heap→YP w s₁.heap→
    s₁.heap.get? fa=some o→o.data=.func (docDef d.name d.params d.body d.scope pm cd doc)→s₁.heap.CodeRec cd d.name→mg d.name=some (.ref fa)→
    s₁.heap.get? a=some { cls:=.type "list",data:=.seq vs.toArray }→IntsAre vs ns→ns.length≤n→s₁.gens = #[]→
    codeAny (model l.prog w) callerA (.call (.ref fa) ⟨[.ref a],[]⟩) (fun r s'=>r=.ok (.ret (.bool true))∧OldK s₁.heap s'.heap∧s'.os=s₁.os∧AllBare s'.gens) s₁):
  WalkO q loose XP YP l.row.toRowW d [] (fun f vs=>PySem.call f vs):=by
 intro w s₀ s₁ mg mb G Y fa o pm cd doc dV kV ho hd hcd hD hmg hg args vals as hpre hlay hrd hwl hlo
 obtain rfl:dV=.none:=Dflts.none hD hdf
 obtain rfl:kV=.none:=Dflts.noKw hD
 obtain ⟨a,vs,ns,rfl,rfl,hobj,hints,hlen⟩:=zig hn hpre hwl
 refine enter_call (codeAny_mono (call w s₀ s₁ mg mb fa o pm cd doc a vs ns G Y ho (fd_plain hd) hcd hmg hobj hints hlen hg) fun r s' hq=>?_)
 obtain ⟨rfl,h2,h3,h4⟩:=hq
 exact ⟨.inl ⟨.bool true,.bool true,[],rfl,fun _=>rfl,.bool true,zih l _,fun _=>⟨List.Pairwise.nil,fun _ hm=>(nomatch hm)⟩⟩,h2,h3,h4⟩
section
variable {prog:Program} {w:World} {A:Around} {E:Value→Shared→Prop} {s:Shared} {K:Frag}
def znv (h:Heap) (L d:Addr):List (Addr × Obj):=(List.range h.objs.size).filterMap fun a=>if a=L∨a=d then none else (h.get? a).map fun o=>(a,o)
end
end Att
namespace L2
open PySem PySem.Spec PyProof.Rows
theorem zfB:∀ {vs:List Value} {ns:List Int},IntsAre vs ns→Vals (ns.map V.int) vs
 | _,_,.nil=>.nil
 | _,_,.cons n t h=>.cons ⟨t,rfl⟩ (zfB h)
end L2
namespace L2
open PySem PySem.Spec PyProof.Rows
abbrev KOf {K:PySem.W.Frag} {h:Heap} (_:K.In h):PySem.W.Frag:=K
end L2
/- THE LAST THEOREM (shape;LID,My.* are yours):
   My.Adr: a structure of the addresses that your layer names (classes,functions);My.Txt K t: a structure (Prop) of the equations over K;
   My.txt_mk : {K} {implicit addresses ..} (e1:nsIn K mainGlobals "law" = some (some (.ref f))) (e2:K.lookup f=some ⟨oc,od,.func (fnOf "law" "law" params body scope dV kV doc pm an cdv ct),sl⟩) (e3:codeIn K cdv "law" = true) .. : ∃t,My.Txt K t
set_option maxRecDepth 100000 in
set_option maxHeartbeats 0 in
theorem PySem.Challenge.cw_LID_holds : PySem.Challenge.rw_LID.Holds := by
 w_on;o_law;k_head;(case hw=>w_witness2)
 k_fill
 refine L2.walk_of (l:=PySem.Challenge.rw_LID) (n:=63) (k:=40) (x := "script") (CX:=fun w => ..) (sp:=fun _=>My.sp_law) rfl (by decide) rfl ⟨rfl,by decide,by decide⟩ (fun w h Y=>PySem.W.kIn_of Y) ?F ?S ?C
 case F=>
  intro w mg fa h KX G hmg
  have T:∃t,My.Txt (L2.KOf KX) t:=by
   dsimp only [L2.KOf]
   refine' My.txt_mk ?e1 ?e2 ?e3 ..
   (case e1=>PySem.W.k_is)
   (case e2=>PySem.W.k_is)
   ..
  obtain ⟨t,T⟩:=T
  have e0:=hmg.symm.trans (PySem.W.mg_of KX G T.law)
  cases e0
  exact ⟨_,fun s u=>.of_eq rfl,fun base kb nb=>My.law_fn T kb nb⟩
 case S=>exact fun w H a ns hl hO hS => ..
 case C=>exact ..
(the tactic k_is has no namespace: write k_is) -/
namespace L2
open PySem PySem.Spec PyProof.Rows
def zak (s:Stmt):Arguments:=match s with
 | .FunctionDef _ a _ _ _ _ _ _ _ _=>a
 | _ => { posonlyargs:=[],args:=[],vararg:=none,kwonlyargs:=[],kw_defaults:=[],kwarg:=none,defaults:=[] }
def zag (s:Stmt):List Stmt:=match s with
 | .FunctionDef _ _ b _ _ _ _ _ _ _=>b
 | _=>[]
def zac (s:Stmt):Scope:=match s with
 | .FunctionDef _ _ _ _ _ _ sc _ _ _=>sc
 | _ => { kind:=.function,names:=[],isGenerator:=false,isCoroutine:=false }
abbrev CX0:CXT:=fun _ _ _ _ _ _=>False
abbrev E0:XK:=fun _ _ _=>False
theorem zlg {X:Cx}:zh8 CX0 X E0:=fun _ _ _ _ _ _ _ h=>h.elim
structure Fun (K:PySem.W.Frag) (x qual:Str) (st:Stmt) (f:Addr) (fd:FuncData):Prop where
 ex:∃(oc:Value) (od:Option Addr) (kV doc pm:Value) (an:Option Addr) (cdv ct:Value) (osl:Array (Option Value)),
  fd=PySem.W.fnOf x qual (zak st) (zag st) (zac st) .none kV doc pm an cdv ct∧K.lookup f=some ⟨oc,od,.func fd,osl⟩∧PySem.W.codeIn K cdv qual=true
 kp:PySem.W.keepIn K (.ref f)=true
section
variable {P:Program} {w:World} {K:PySem.W.Frag} {mg:Str→Option Value} {base:Heap}
theorem Fun.ok {x qual:Str} {st:Stmt} {f:Addr} {fd:FuncData} {N ps:List Str} {k:Nat} {sp:Sp} (F:Fun K x qual st f fd) (S:FnScope N ps (zac st)) (len:∀vs H Q E,sp vs H Q E→vs.length=ps.length)
  (hbody:∀(cdv:Value) (A:Around) (outer:List Env) (s:Shared) (H:Hp) (vs:List V) (Q:VK) (E:XK),Room k (A.deeper (envOfC qual (zac st) s.heap.objs.size f cdv))→sp vs H Q E→
    ∃t,PSs (cxOf CX0 P w K mg base N qual (zac st) f cdv A outer s H E).nox (zag st) t∧t { nx:=fun _ H'=>Q .non H',rt:=Q } (zcY N vs) H):FnOk P w K mg base CX0 (k+1) f fd ps sp:=by
 obtain ⟨oc,od,kV,doc,pm,an,cdv,ct,osl,rfl,lk,hcd⟩:=F.ex
 refine zk7 lk hcd S len fun A outer s H vs Q E hr hsp=>?_
 obtain ⟨t,h,q⟩:=hbody cdv A outer s H vs Q E hr hsp
 exact ⟨t,h.nox,q⟩
theorem Fun.binds {x qual:Str} {st:Stmt} {f:Addr} {fd:FuncData} {ps:List Str} (F:Fun K x qual st f fd)
  (h:∀(kV doc pm:Value) (an:Option Addr) (cdv ct:Value) (us:List Value),us.length=ps.length→bindArgs (PySem.W.fnOf x qual (zak st) (zag st) (zac st) .none kV doc pm an cdv ct) ⟨us,[]⟩=pure (ps.zip us)):zbN K fd ps []:=by
 obtain ⟨oc,od,kV,doc,pm,an,cdv,ct,osl,rfl,lk,hcd⟩:=F.ex
 exact .all (h kV doc pm an cdv ct)
theorem zaE {x qual:Str} {st:Stmt} {f:Addr} {oc:Value} {od an:Option Addr} {osl:Array (Option Value)} {kV doc pm cdv ct:Value} (l:K.lookup f=some ⟨oc,od,.func (PySem.W.fnOf x qual (zak st) (zag st) (zac st) .none kV doc pm an cdv ct),osl⟩)
 (c:PySem.W.codeIn K cdv qual=true) (k:PySem.W.keepIn K (.ref f)=true):Fun K x qual st f (PySem.W.fnOf x qual (zak st) (zag st) (zac st) .none kV doc pm an cdv ct):=⟨⟨oc,od,kV,doc,pm,an,cdv,ct,osl,rfl,l,c⟩,k⟩
end
theorem zaF {n:Nat} (h:n≤1000):n<sizeLine:=Nat.lt_of_le_of_lt h (by decide)
section
variable {X:Cx}
theorem pv (i:Nat) {x:Str} {pos:Pos} (hN:X.N[i]?=some x:=by rfl) (hv:Vis X.env.scope x:=by first | exact Or.inl rfl | exact Or.inr (Or.inl rfl) | exact Or.inr (Or.inr rfl)) (hd:(x==("__debug__" : Str))=false:=by decide)
 (hcd:(x==("__classdict__" : Str))=false:=by decide):PE X (.Name x pos) (tVar i):=zko hN hv hd hcd
end
theorem iteF {A B:Prop} (h:B):if false=true then A else B:=by
 rw [if_neg Bool.false_ne_true]
 exact h
theorem iteT {A B:Prop} (h:A):if true=true then A else B:=by
 rw [if_pos rfl]
 exact h
theorem ite2 {c A B:Prop} [Decidable c] (h1:c→A) (h2:¬c→B):if c then A else B:=by
 by_cases h:c
 ·rw [if_pos h]
  exact h1 h
 ·rw [if_neg h]
  exact h2 h
def Same (H H':Hp):Prop:=∀b o,H b=some o→H' b=some o
theorem Same.refl (H:Hp):Same H H:=fun _ _ h=>h
theorem Same.trans {H H1 H2:Hp} (a:Same H H1) (b:Same H1 H2):Same H H2:=fun c o h=>b c o (a c o h)
theorem Same.free {H H':Hp} (e:Same H H') {l:Addr} (h:H' l=Option.none):H l=Option.none:=by
 cases q:H l with
 | none=>rfl
 | some o=>
   rw [e l o q] at h
   cases h
theorem Same.seq {K:PySem.W.Frag} {H H':Hp} {a:Addr} {xs:List V} (e:Same H H') (h:SqL K H a xs):SqL K H' a xs:=by
 rcases h with (h | ⟨o,h⟩) | h
 ·exact .inl (.inl (e _ _ h))
 ·exact .inl (.inr ⟨o,e _ _ h⟩)
 ·exact .inr h
section
variable {κ:Type} [DecidableEq κ]
theorem zlh {kvs:List (κ × V)} {k : κ} {v:V} (h:valV kvs k=some v):k∈kvs.map (·.1):=by
 have q:(kvs.any fun kv=>decide (kv.1=k))=true:=by
  rw [zcF,h]
  all_goals rfl
 obtain ⟨p,hp,e⟩:=List.any_eq_true.mp q
 exact List.mem_map.mpr ⟨p,hp,of_decide_eq_true e⟩
end
end L2
namespace L2
open PySem PySem.Spec PyProof.Rows
theorem zdY:bootBuiltins "len" = some (.builtin "len"):=by decide +kernel
theorem zkx:bootBuiltins "max" = some (.builtin "max"):=by decide +kernel
theorem zii:bootBuiltins "min" = some (.builtin "min"):=by decide +kernel
theorem zc0:bootBuiltins "isinstance" = some (.builtin "isinstance"):=by decide +kernel
theorem zfC:bootBuiltins "int" = some (.type "int"):=by decide +kernel
theorem zli:bootBuiltins "bool" = some (.type "bool"):=by decide +kernel
theorem zeT:bootBuiltins "dict" = some (.type "dict"):=by decide +kernel
theorem zmk:bootBuiltins "all" = some (.builtin "all"):=by decide +kernel
structure Cal (P:Program) (w:World) (K:PySem.W.Frag) (mg:Str→Option Value) (base:Heap) (x:Str) (k:Nat) (ps:List Str) (sp:Sp):Prop where
 ex:∃f fd,FnOk P w K mg base CX0 k f fd ps sp∧zbN K fd ps []∧mg x=some (.ref f)∧PySem.W.keepIn K (.ref f)=true
structure Dfn (K:PySem.W.Frag) (mg:Str→Option Value) (x:Str) (st:Stmt) (ps:List Str) (f:Addr) (fd:FuncData):Prop where
 F:Fun K x x st f fd
 b:zbN K fd ps []
 m:mg x=some (.ref f)
theorem Dfn.cal {P:Program} {w:World} {K:PySem.W.Frag} {mg:Str→Option Value} {base:Heap} {x:Str} {st:Stmt} {ps:List Str} {f:Addr} {fd:FuncData} {k:Nat} {sp:Sp}
 (D:Dfn K mg x st ps f fd) (G:FnOk P w K mg base CX0 k f fd ps sp):Cal P w K mg base x k ps sp:=⟨⟨f,fd,G,D.b,D.m,D.F.kp⟩⟩
section
variable {X:Cx} {k:Nat} {ps:List Str} {sp:Sp} {x:Str} {p pos:Pos} {e:Expr} {es:List Expr} {t:TA}
theorem zam (C:Cal X.prog X.w X.K X.mg X.base x k ps sp) (hr:Room k X.A) (hg:Gl X x) (ha:PA X (e::es) t) (hdb:(x==("__debug__" : Str))=false:=by decide)
  (he:starEach (e::es) X.env=(false,eval e X.env)::starEach es X.env:=by rfl) (hpl:(backTo pos (starEach es X.env)).any (·.1)=false:=by rfl):
  PE X (.Call (.Name x p) (e::es) [] pos) (zjw sp [] E0 t):=by
 obtain ⟨f,fd,G,b,m,kp⟩:=C.ex
 exact zgd G hr hg m kp b .nil zlg ha hdb he hpl
end
section
variable {X:Cx}
def znc (_ j:Int):Prop:=0<j∧j<1000000000000000000000000000000000000000000000000000000000000
theorem zeU:OpR X (binaryOp .FloorDiv) (rI znc fun i j=>.int (i / j)):=opI fun i j _ _ _ _ _ hc q=>by
 have h1:(0:Int)<j:=hc.1
 have h2:j<1000000000000000000000000000000000000000000000000000000000000:=hc.2
 have h3:j.natAbs<2 ^ 200:=by
  have z:(1000000000000000000000000000000000000000000000000000000000000:Nat)≤2 ^ 200:=by decide
  exact Nat.lt_of_lt_of_le (by omega) z
 have h4:j.natAbs.log2<200:=(Nat.log2_lt (by omega)).mpr h3
 exact floordiv_int (by omega) (by rw [Int.fdiv_eq_ediv_of_nonneg i (by omega)];exact q) (.inl (PyProof.noPylong_of_log2 (by omega)))
theorem zgV {n:String}:zdU X (.builtin "isinstance") (fun xs H Q=>∃x t b,xs=[x,.ty n]∧TyOf X.K H x t∧PySem.W.kitOne X.K t (.type n)=some b∧Q (.bl b) H):=by
 intro pins s σ H xs us Q I r h
 obtain ⟨x,t,b,rfl,ty,e,q⟩:=h
 obtain ⟨u,w',rfl,ru,rw'⟩:=zjv r
 cases (show w'=Value.type n from rw')
 exact zh7 I ru ty e fun tk=>⟨.bl b,H,I.tok tk,rfl,q⟩
theorem zfD:OpR X (compareOp .IsNot) (fun x y H Q=>∃c d,x=.bl c∧y=.bl d∧Q (.bl (!(c==d))) H):=by
 intro pins s σ H x y v u Q I rx ry h
 obtain ⟨c,d,rfl,rfl,q⟩:=h
 cases (show v=Value.bool c from rx)
 cases (show u=Value.bool d from ry)
 exact wpAny_isNot_plain rfl (zbA I q (by cases c<;>cases d<;>rfl))
def eqVs:List V→List V→Bool
 | [],[]=>true
 | x::xs,y::ys=>eqV x y&&eqVs xs ys
 | _,_=>false
def eqJ (xs ys:List V) (j:Nat):Bool:=match xs[j]?,ys[j]? with
 | some x,some y=>eqV x y
 | _,_=>false
theorem zdZ:∀xs ys:List V,((List.range (min xs.length ys.length)).all (eqJ xs ys)&&(xs.length==ys.length))=eqVs xs ys
 | [],[]=>rfl
 | [],y::ys=>by simp [eqVs]
 | x::xs,[]=>by simp [eqVs]
 | x::xs,y::ys=>by
   have ih:=zdZ xs ys
   have hm:min (x::xs).length (y::ys).length=min xs.length ys.length+1:=by simp [List.length_cons]
   have h0:eqJ (x::xs) (y::ys) 0=eqV x y:=rfl
   have h1:(eqJ (x::xs) (y::ys)) ∘ Nat.succ=eqJ xs ys:=by
    funext j
    simp [eqJ,Function.comp]
   have hl:((x::xs).length==(y::ys).length)=(xs.length==ys.length):=by
    rw [Bool.eq_iff_iff]
    simp
   rw [hm,List.range_succ_eq_map,List.all_cons,List.all_map,h0,h1,hl,Bool.and_assoc,ih]
   rfl
theorem zky {A:Around} {s:Shared} {xs ys:List V} {us vs:List Value} (r:Vals xs us) (q:Vals ys vs) (fx:xs.all zcL=true) (fy:ys.all zcL=true) (j:Nat) (h1:j<us.toArray.size) (h2:j<vs.toArray.size):
  SeqAt.EqAt A s us.toArray[j] vs.toArray[j] (eqJ xs ys j):=by
 have l1:j<xs.length:=by rw [r.length];simpa using h1
 have l2:j<ys.length:=by rw [q.length];simpa using h2
 obtain ⟨u,eu,ru⟩:=r.get (List.getElem?_eq_getElem l1)
 obtain ⟨v,ev,rv⟩:=q.get (List.getElem?_eq_getElem l2)
 have e1:us.toArray[j]=u:=by
  have:=(List.getElem?_eq_some_iff.mp eu).2
  simpa using this
 have e2:vs.toArray[j]=v:=by
  have:=(List.getElem?_eq_some_iff.mp ev).2
  simpa using this
 have e3:eqJ xs ys j=eqV xs[j] ys[j]:=by
  unfold eqJ
  rw [List.getElem?_eq_getElem l1,List.getElem?_eq_getElem l2]
 rw [e1,e2,e3]
 exact zku ru rv (List.all_eq_true.mp fx _ (List.getElem_mem l1)) (List.all_eq_true.mp fy _ (List.getElem_mem l2))
theorem zgW:∀ {xs ys:List V},xs.length≠ys.length→eqVs xs ys=false
 | [],[],h=>absurd rfl h
 | [],_::_,_=>rfl
 | _::_,[],_=>rfl
 | x::xs,y::ys,h=>by
   show (eqV x y&&eqVs xs ys)=false
   rw [zgW (fun e=>h (by simp [e])),Bool.and_false]
theorem zcN:∀ns:List Int,eqVs (ns.map V.int) (ns.map V.int)=true
 | []=>rfl
 | n::ns=>by
   show ((n==n)&&eqVs (ns.map V.int) (ns.map V.int))=true
   rw [zcN ns]
   simp
end
theorem at4 (a b c d n:Int):∃v,atI [V.int a,V.int b,V.int c,V.int d] (n % 4)=some (V.int v)∧(v=a∨v=b∨v=c∨v=d):=by
 have h:n % 4=0∨n % 4=1∨n % 4=2∨n % 4=3:=by omega
 rcases h with h | h | h | h<;>rw [h]
 ·exact ⟨a,rfl,.inl rfl⟩
 ·exact ⟨b,rfl,.inr (.inl rfl)⟩
 ·exact ⟨c,rfl,.inr (.inr (.inl rfl))⟩
 ·exact ⟨d,rfl,.inr (.inr (.inr rfl))⟩
theorem zby {H:Hp} {p:Addr} (h:H p=none) (o:HO):Same H (upd H p o):=fun b u q=>by rw [zap (zbi q h)];exact q
section
variable {X:Cx} {es:List Expr} {t:TA} {pos:Pos}
def znd (t:TA):TE:=fun σ H Q=>t σ H fun xs H1=>xs.length≤sizeLine∧∀p H2,Same H1 H2→H1 p=none→H2 p=some (.tup xs)→Q (.ref p) H2
def zne (t:TA):TE:=fun σ H Q=>t σ H fun xs H1=>xs.length≤sizeLine∧∀p H2,Same H1 H2→H1 p=none→H2 p=some (.lst xs)→Q (.ref p) H2
theorem zaZ {x1} (h:PA X es t):PE X (.Tuple es x1 pos) (znd t):=by
 with_unfolding_all
  intro pins s σ H Q I hq
  refine wpAny_Tuple_spliced (thn (h pos pins s σ H _ I hq) fun us s1 ⟨xs,H1,I1,r,z,q⟩=>⟨by rw [←r.length];exact z,?_⟩)
  have hf:H1 s1.heap.objs.size=none:=I1.hok.fresh (Nat.le_refl _)
  refine ⟨.ref s1.heap.objs.size,upd H1 s1.heap.objs.size (.tup xs),I1.laid (t':=s1.toks) (fun b u e=>Heap.get?_push_of_some _ e) (Nat.le_refl _) ?_,rfl,q _ _ (zby hf _) hf zar⟩
  exact ⟨z,us,r,⟨_,Heap.get?_push_size _ rfl,rfl,_,rfl⟩⟩
theorem zbb (h:PA X es t):PE X (.List es pos) (zne t):=by
 with_unfolding_all
  intro pins s σ H Q I hq
  refine wpAny_List_spliced (thn (h pos pins s σ H _ I hq) fun us s1 ⟨xs,H1,I1,r,z,q⟩=>⟨by rw [←r.length];exact z,?_⟩)
  have hf:H1 s1.heap.objs.size=none:=I1.hok.fresh (Nat.le_refl _)
  refine ⟨.ref s1.heap.objs.size,upd H1 s1.heap.objs.size (.lst xs),I1.laid (t':=s1.toks) (fun b u e=>Heap.get?_push_of_some _ e) (Nat.le_refl _) ?_,rfl,q _ _ (zby hf _) hf zar⟩
  exact ⟨z,us,0,r,Heap.get?_push_size _ rfl⟩
end
section
variable {X:Cx} {st:Stmt} {rest:List Stmt} {t u:TS}
def tMid (t u:TS):TS:=fun D σ H=>∃M:St→Hp→Prop,t { D with nx:=M } σ H∧∀ σ' H',M σ' H'→u D σ' H'
theorem zgh (h1:PS X st t) (h2:PSs X rest u):PSs X (st::rest) (tMid t u):=by
 with_unfolding_all
  intro pins s σ H D I h
  obtain ⟨M,h,hm⟩:=h
  refine wpAny_execs_cons (thn (h1 pins s σ H { D with nx:=M } I h) fun f s1 q=>?_)
  cases f with
  | next=>
    obtain ⟨σ',H',I',q⟩:=q
    exact h2 pins s1 σ' H' D I' (hm σ' H' q)
  | ret v=>exact q
  | brk=>exact q
  | cont=>exact q
end
theorem sz (n:Nat) (h:n≤1000):n≤sizeLine:=Nat.le_of_lt (zaF h)
def zij (K:PySem.W.Frag):Sp:=fun vs H Q _=>∃(a:Addr) (ns:List Int),vs=[.ref a]∧SqL K H a (ns.map V.int)∧ns.length≤63∧∀H',Q (.bl true) H'
section
variable {X:Cx}
end
theorem iteD {c A B:Prop} [Decidable c] (hc:c) (h:A):if decide c=true then A else B:=by
 rw [decide_eq_true hc]
 exact iteT h
theorem zfE {c A B:Prop} [Decidable c] (hc:¬c) (h:B):if decide c=true then A else B:=by
 rw [decide_eq_false hc]
 exact iteF h
end L2
set_option maxHeartbeats 4000000
namespace PySem
def zda (env:Env) (x:Str × NameKind) (cs:List (Str × Addr)):Sem (ForInStep (List (Str × Addr))):=
 if (x.2==NameKind.free)=true then do let c ←cellOf env x.1;pure (ForInStep.yield ((x.1,c)::cs)) else pure (ForInStep.yield cs)
theorem zkz (scope:Scope) (env:Env):closureFor scope env=(forIn scope.names ([]:List (Str × Addr)) (zda env) >>= fun cs=>pure cs):=by
 unfold closureFor
 rfl
theorem zgX {env:Env}:∀(l:List (Str × NameKind)) (acc:List (Str × Addr)),(∀y∈l,y.2=.free→∃c,env.cells.lookup y.1=some c)→(∀x c,acc.lookup x=some c→env.cells.lookup x=some c)→
  ∃cl,(forIn l acc (zda env):Sem _)=pure cl∧(∀x c,cl.lookup x=some c→env.cells.lookup x=some c)∧(∀x,(x,NameKind.free)∈l→∃c,cl.lookup x=some c)∧(∀x c,acc.lookup x=some c→∃c,cl.lookup x=some c)∧(∀x c,cl.lookup x=some c→(x,NameKind.free)∈l∨∃c',acc.lookup x=some c')
 | [],acc,_,ha=>⟨acc,rfl,ha,fun x h=>(by cases h),fun x c h=>⟨c,h⟩,fun x c h=>.inr ⟨c,h⟩⟩
 | (n,k)::l,acc,h,ha=>by
   by_cases hk:k=.free
   ·subst hk
    obtain ⟨c,hc⟩:=h (n,.free) List.mem_cons_self rfl
    have ha':∀x c',((n,c)::acc).lookup x=some c'→env.cells.lookup x=some c':=fun x c' e=>by
     rw [List.lookup_cons] at e
     by_cases q:x=n
     ·subst q
      simp at e
      rw [hc,e]
     ·have:(x==n)=false:=by simpa using q
      rw [this] at e
      exact ha x c' e
    obtain ⟨cl,e1,e2,e3,e4,e5⟩:=zgX l ((n,c)::acc) (fun y hy=>h y (List.mem_cons_of_mem _ hy)) ha'
    refine ⟨cl,?_,e2,fun x hx=>?_,fun x c' hx=>?_,fun x c' hx=>?_⟩
    ·rw [List.forIn_cons]
     have:zda env (n,.free) acc=pure (ForInStep.yield ((n,c)::acc)):=by
      simp only [zda,cellOf,hc]
      rfl
     rw [this,pure_bind]
     exact e1
    ·rcases List.mem_cons.mp hx with q | q
     ·cases q
      exact e4 n c (by simp)
     ·exact e3 x q
    ·by_cases q:x=n
     ·subst q
      exact e4 x c (by simp)
     ·have:(x==n)=false:=by simpa using q
      exact e4 x c' (by rw [List.lookup_cons,this];exact hx)
    ·rcases e5 x c' hx with z | ⟨d,z⟩
     ·exact .inl (List.mem_cons_of_mem _ z)
     ·by_cases q:x=n
      ·subst q
       exact .inl List.mem_cons_self
      ·have:(x==n)=false:=by simpa using q
       rw [List.lookup_cons,this] at z
       exact .inr ⟨d,z⟩
   ·obtain ⟨cl,e1,e2,e3,e4,e5⟩:=zgX l acc (fun y hy=>h y (List.mem_cons_of_mem _ hy)) ha
    refine ⟨cl,?_,e2,fun x hx=>?_,e4,fun x c' hx=>(e5 x c' hx).imp (List.mem_cons_of_mem _) id⟩
    ·rw [List.forIn_cons]
     have:zda env (n,k) acc=pure (ForInStep.yield acc):=by
      have z:(k==NameKind.free)=false:=by simpa using hk
      simp only [zda,z]
      rfl
     rw [this,pure_bind]
     exact e1
    ·rcases List.mem_cons.mp hx with q | q
     ·cases q
      exact absurd rfl hk
     ·exact e3 x q
theorem zdb {scope:Scope} {env:Env} (h:∀y∈scope.names,y.2=.free→∃c,env.cells.lookup y.1=some c):
  ∃cl,closureFor scope env=pure cl∧(∀x c,cl.lookup x=some c→env.cells.lookup x=some c)∧(∀x,(x,NameKind.free)∈scope.names→∃c,cl.lookup x=some c):=by
 obtain ⟨cl,e1,e2,e3,_⟩:=zgX scope.names [] h (fun x c e=>by simp at e)
 exact ⟨cl,by rw [zkz,e1];rfl,e2,e3⟩
theorem zgi {scope:Scope} {env:Env} (h:∀y∈scope.names,y.2=.free→∃c,env.cells.lookup y.1=some c):
  ∃cl,closureFor scope env=pure cl∧(∀x c,cl.lookup x=some c→env.cells.lookup x=some c)∧(∀x,(x,NameKind.free)∈scope.names→∃c,cl.lookup x=some c)∧(∀x c,cl.lookup x=some c→(x,NameKind.free)∈scope.names):=by
 obtain ⟨cl,e1,e2,e3,_,e5⟩:=zgX scope.names [] h (fun x c e=>by simp at e)
 exact ⟨cl,by rw [zkz,e1];rfl,e2,e3,fun x c e=>(e5 x c e).elim id fun ⟨_,z⟩=>by simp at z⟩
end PySem
namespace L2
open PySem PySem.Spec PyProof.Rows
abbrev zaz (X:Cx) (N:List Str) (scope:Scope) (cl:List (Str × Addr)) (C:Addr) (s₀:Shared) (H₀:Hp) (ex:List Addr):Cx where
 prog:=X.prog
 w:=X.w
 K:=X.K
 mg:=X.mg
 base:=X.base
 A:=X.A
 N:=N
 s₀:=s₀
 H₀:=H₀
 env:=compEnvC scope cl C X.env
 outer:=X.stack
 stack:=X.stack
 ex:=ex
 fn:=fun _=>false
 calm:=X.calm
 pn:=[]
 xe:=fun _ _=>False
def zfF (Y:Cx) (ifs:List Expr) (t:TT):Prop:=
 ∀(pins:List (Addr × Obj)) (s:Shared) (σ:St) (H:Hp) (Q:Bool→Hp→Prop),Inv Y pins σ H s→t σ H Q→
  wpAny (model Y.prog Y.w) Y.A (forIn ifs true fun c r=>if r=true then do let ok ←isTrue c Y.env (eval c Y.env);pure (ForInStep.yield ok) else pure (ForInStep.yield r)) (TP Y pins σ Q) Y.xe s
def tYes:TT:=fun _ H Q=>Q true H
theorem zc1 {Y:Cx}:zfF Y [] tYes:=fun _ _ _ H _ I h=>wpAny_tests_nil ⟨H,I,h⟩
theorem zfG {Y:Cx} {c:Expr} {t:TT} (h:PT Y c t):zfF Y [c] t:=by
 with_unfolding_all
  exact fun pins s σ H Q I q=>wpAny_tests_one (h pins s σ H Q I q)
def caps (σ:St) (js:List Nat):St:=js.map fun j=>(σ[j]?).join
def zeA (J:It) (js:List Nat) (tc:TT) (te:TE) (σ:St) (H1:Hp) (Q:VK):Prop:=
 ∀D H2,Same H1 H2→H1 D=none→H2 D=some (.lst [])→∃W:Nat→Nat→List V→Hp→Prop,(∃m,W 0 m [] H2)∧∀i m acc H3,W i m acc H3→
  H3 D=some (.lst acc)∧acc.length<sizeLine∧((J.stop i H3∧Q (.ref D) H3)∨(J.go i H3∧∀x H4,J.yld i H3 x H4→
   tc (some x::caps σ js) H4 fun b H5=>if b=true then te (some x::caps σ js) H5 fun v H6=>H6 D=some (.lst acc)∧
       ∀H7,(∀b o,b≠D→H6 b=some o→H7 b=some o)→H7 D=some (.lst (acc++[v]))→∃m',m'<m∧W (i+1) m' (acc++[v]) H7
    else ∃m',m'<m∧W (i+1) m' acc H5))
def zml (wi:TI) (js:List Nat) (tc:TT) (te:TE):TE:=fun σ H Q=>wi σ H fun J H1=>zeA J js tc te σ H1 Q
structure CompScope (X:Cx) (scope:Scope) (x:Str) (N:List Str) (js:List Nat):Prop where
 kind:scope.kind=.function
 nocell:∀y∈scope.names,y.2≠.cell
 loc:∀y∈scope.names,y.2=.local→scope.names.lookup y.1=some .local
 own:scope.names.lookup x=some .local
 free:∀y∈scope.names,y.2=.free→X.env.kindOf y.1=some .cell
 nd:N.Nodup
 head:N[0]?=some x
 len:N.length=js.length+1
 apart:∀y,scope.names.lookup y=some .local→(y,NameKind.free)∉scope.names
 cap:∀(k j:Nat) (y:Str),N[k+1]?=some y→js[k]?=some j→X.N[j]?=some y∧Vis X.env.scope y∧X.env.kindOf y=some .cell∧(y,NameKind.free)∈scope.names
theorem CompScope.of {X:Cx} {scope:Scope} {x:Str} {N:List Str} {js:List Nat} (c1:scope.kind=.function) (c2:(scope.names.all fun y=>y.2 != .cell)=true)
  (c3:(scope.names.all fun y=>y.2 != .local||scope.names.lookup y.1==some .local)=true) (c4:scope.names.lookup x=some .local) (c5:(scope.names.all fun y=>y.2 != .free||X.env.kindOf y.1==some .cell)=true)
  (nd:N.Nodup) (hd:N[0]?=some x) (len:N.length=js.length+1) (c6:(scope.names.all fun y=>y.2 != .free||scope.names.lookup y.1 != some .local)=true)
  (c7:(((N.drop 1).zip js).all fun p=>X.N[p.2]?==some p.1&&X.env.scope.names.lookup p.1==some .cell&&scope.names.contains (p.1,NameKind.free))=true):CompScope X scope x N js where
 kind:=c1
 nocell:=fun y hy e=>by
  have:=List.all_eq_true.mp c2 y hy
  rw [e] at this
  exact absurd this (by decide)
 loc:=fun y hy e=>by
  have:=List.all_eq_true.mp c3 y hy
  rw [e] at this
  simpa using this
 own:=c4
 free:=fun y hy e=>by
  have:=List.all_eq_true.mp c5 y hy
  rw [e] at this
  simpa using this
 nd:=nd
 head:=hd
 len:=len
 apart:=fun y hl hm=>by
  have:=List.all_eq_true.mp c6 _ hm
  rw [hl] at this
  simp at this
 cap:=fun k j y h1 h2=>by
  have hz:((N.drop 1).zip js)[k]?=some (y,j):=by
   rw [List.getElem?_zip_eq_some]
   exact ⟨by rw [List.getElem?_drop,Nat.add_comm];exact h1,h2⟩
  have:=List.all_eq_true.mp c7 _ (List.mem_of_getElem? hz)
  simp only [Bool.and_eq_true,beq_iff_eq] at this
  obtain ⟨⟨a,b⟩,c⟩:=this
  exact ⟨a,.inr (.inl b),b,by simpa using c⟩
theorem zbx {scope:Scope} {env:Env} {y:Str} {k:NameKind} (h:(relabel scope env).names.lookup y=some k) (hk:k=.cell∨k=.free) (nocell:∀z∈scope.names,z.2≠.cell):(y,NameKind.free)∈scope.names:=by
 have hm:=PySem.mem_of_lookup h
 obtain ⟨⟨n,k'⟩,hn,e⟩:=List.mem_map.mp hm
 dsimp only at e
 by_cases c:(k'==NameKind.free&&env.scope.kind==.function&&env.kindOf n==some .cell)=true
 ·rw [if_pos c] at e
  have ek:k'=.free:=by
   simp only [Bool.and_eq_true,beq_iff_eq] at c
   exact c.1.1
  cases e
  rw [←ek]
  exact hn
 ·rw [if_neg c] at e
  cases e
  rcases hk with rfl | rfl
  ·exact absurd rfl (nocell _ hn)
  ·exact hn
theorem zbS {X:Cx} {iter elt:Expr} {x:Str} {px:Pos} {ifs:List Expr} {scope:Scope} {pos:Pos} {wi:TI} {N:List Str} {js:List Nat} {tc:TT} {te:TE}
  (hc:X.calm=true) (S:CompScope X scope x N js) (hi:PI X (.Name x px) iter wi)
  (ht:∀cl C s₀ H₀ ex,zfF (zaz X N scope cl C s₀ H₀ ex) ifs tc) (he:∀cl C s₀ H₀ ex,PE (zaz X N scope cl C s₀ H₀ ex) elt te)
  (hs:∀x,foldedSetIterable iter X.env x=pure x:=by intro _;rfl):
  PE X (.ListComp elt [⟨.Name x px,iter,ifs,0⟩] scope pos) (zml wi js tc te):=by
 with_unfolding_all
  intro pins s σ H Q I h
  have hcells:∀y∈scope.names,y.2=.free→∃c,X.env.cells.lookup y.1=some c:=fun y hy hf=>I.ok.has y.1 (.inl (S.free y hy hf))
  obtain ⟨cl,ecl,cl1,cl2⟩:=zdb hcells
  rw [eval_ListComp]
  refine wpAny_comprehension_free (use:=none) rfl hs ecl S.kind S.loc (thn (hi pins s σ H _ I h) fun v s1 h1=>thn h1 fun itv s2 h2=>?_)
  obtain ⟨it,fp,tn,J,H2,e,I2,T,st2,f2,q2⟩:=h2
  subst e
  refine wpAny_newObj_type (wpAny_newFunctionEnv S.nocell (by intro y hy;simp at hy) (fun h₁ hns₁ hsb₁=>?_) S.kind)
  dsimp only at hns₁ hsb₁ ⊢
  generalize hP2:s2.heap.push { cls:=.type "list",dict:=none,data:=.seq ([]:List Value).toArray }=P2 at hns₁ hsb₁ ⊢
  have hC:P2.objs.size=s2.heap.objs.size+1:=by rw [←hP2,Heap.size_push]
  have below:∀b,b<s2.heap.objs.size→b≠P2.objs.size∧b≠s2.heap.objs.size:=fun b hb=>⟨by rw [hC];exact Nat.ne_of_lt (Nat.lt_succ_of_lt hb),Nat.ne_of_lt hb⟩
  have hDC:s2.heap.objs.size≠P2.objs.size:=by rw [hC];exact Nat.ne_of_lt (Nat.lt_succ_self _)
  have old:∀b o,s2.heap.get? b=some o→h₁.get? b=some o:=fun b o e=>hsb₁.extBut b o (below b (Heap.lt_size e)).1 (Heap.get?_push_of_some _ (hP2▸Heap.get?_push_of_some _ e))
  have hD:h₁.get? s2.heap.objs.size=some { cls:=.type "list",dict:=none,data:=.seq ([]:List Value).toArray }:=hsb₁.extBut _ _ hDC (Heap.get?_push_of_some _ (hP2▸Heap.get?_push_size _ rfl))
  have hDn:H2 s2.heap.objs.size=none:=I2.hok.fresh (Nat.le_refl _)
  have hCn:H2 P2.objs.size=none:=I2.hok.fresh (by rw [hC];exact Nat.le_succ _)
  obtain ⟨W,⟨m0,w0⟩,turn⟩:=q2 s2.heap.objs.size _ (zby hDn (.lst [])) hDn zar
  have fpl:∀b∈fp,b<s2.heap.objs.size:=fun b hb=>by
   obtain ⟨o,e,_⟩:=T.obj 0 _ st2 b hb
   exact Heap.lt_size e
  have yok:(zaz X N scope cl P2.objs.size s2 H2 fp).Ok:=
   { mod:=I2.ok.mod
     kind:=S.kind
     glob:=I2.ok.glob
     blt:=I2.ok.blt
     above:=by show s2.heap.objs.size≤P2.objs.size;rw [hC];exact Nat.le_succ _
     inj:=fun y z c h1 h2=>I2.ok.inj y z c (cl1 y c h1) (cl1 z c h2)
     has:=fun y hy=>by
      have hy':(y,NameKind.free)∈scope.names:=by
       rcases hy with hy | hy
       ·exact zbx (env:=X.env) hy (.inl rfl) S.nocell
       ·exact zbx (env:=X.env) hy (.inr rfl) S.nocell
      exact cl2 y hy'
     cab:=fun y c hf _=>by cases hf
     hd:=fun hc'=>I2.ok.hd hc'
     frames:=I2.ok.frames
     stk:=.inl rfl
     exf:=fun b hb=>⟨(below b (fpl b hb)).1,fun y c e=>(f2 b hb).2.2.2.2.1 y c (cl1 y c e)⟩
     bs:=I2.bs
     bsz:=Nat.le_trans I2.ok.bsz I2.sz
     noex:=fun b o e hb=>by
      rcases (f2 b hb).2.2.2.1 with z | z
      ·exact I2.ok.noex b o e z
      ·exact absurd (Nat.lt_of_lt_of_le (Nat.lt_of_lt_of_le (Heap.lt_size e) I2.ok.bsz) z) (Nat.lt_irrefl _)
     exfs:=fun b hb hf=>by
      rcases List.mem_cons.mp (I2.stkSub b hf) with z | z
      ·exact (f2 b hb).2.1 z
      ·exact (f2 b hb).2.2.1 z
     funs:=I2.stack
     frf:=I2.stkFree }
  have hokD:HOk X.prog X.w (upd H2 s2.heap.objs.size (.lst [])) h₁:=I2.hok.laid old (Nat.le_refl _) ⟨Nat.zero_le _,[],0,.nil,hD⟩
  have I3:Inv (zaz X N scope cl P2.objs.size s2 H2 fp) [] (none::caps σ js) (upd H2 s2.heap.objs.size (.lst [])) { s2 with heap:=h₁,toks:=s2.toks+([]:List (Str × Value)).length }:=
   { ok:=yok
     os:=rfl
     bare:=I2.bare
     base:=Un.laid old (Nat.le_refl _) hDn
     loc:=by
      refine ⟨_,hns₁,fun i y v e1 e2 e3=>?_⟩
      cases i with
      | zero=>simp at e2
      | succ k=>
        have e2':(caps σ js)[k]?=some (some v):=by simpa using e2
        unfold caps at e2'
        rw [List.getElem?_map] at e2'
        cases ej:js[k]? with
        | none=>rw [ej] at e2';cases e2'
        | some j=>
          rw [ej] at e2'
          have e4:(σ[j]?).join=some v:=Option.some.inj e2'
          have e5 : σ[j]?=some (some v):=by
           cases eσ : σ[j]? with
           | none=>rw [eσ] at e4;cases e4
           | some o=>rw [eσ] at e4;exact congrArg some e4
          obtain ⟨n1,n2,n3,n4⟩:=S.cap k j y e1 ej
          obtain ⟨mX,_,lX⟩:=I2.loc
          obtain ⟨u,ru,lk⟩:=lX j y v n1 e5 n2
          refine ⟨u,ru,?_⟩
          rcases lk with ⟨lk,_⟩ | ⟨_,c,ec,cell⟩
          ·rw [n3] at lk;cases lk
          ·obtain ⟨c',ec'⟩:=cl2 y n4
           have:c'=c:=Option.some.inj ((cl1 y c' ec').symm.trans ec)
           subst this
           obtain ⟨o,ho,hd⟩:=cell
           refine .inr ⟨?_,c',ec',⟨o,old _ _ ho,hd⟩⟩
           have e3':(relabel scope X.env).names.lookup y=some .local∨(relabel scope X.env).names.lookup y=some .cell∨(relabel scope X.env).names.lookup y=some .free:=e3
           rcases e3' with z | z | z
           ·exfalso
            have hm:=PySem.mem_of_lookup z
            obtain ⟨⟨n,k'⟩,hn,e⟩:=List.mem_map.mp hm
            dsimp only at e
            by_cases cc:(k'==NameKind.free&&X.env.scope.kind==.function&&X.env.kindOf n==some .cell)=true
            ·rw [if_pos cc] at e
             cases e
            ·rw [if_neg cc] at e
             cases e
             have l1:=S.loc _ hn rfl
             have l2:=lookup_relabel_local (env:=X.env) l1
             have f1:=S.free _ n4 rfl
             exact S.apart y l1 n4
           ·exact .inl z
           ·exact .inr z
     cell:=fun y c e=>by
      obtain ⟨v,o,ho,hd⟩:=I2.cell y c (cl1 y c e)
      exact ⟨v,o,old _ _ ho,hd⟩
     free:=by show upd H2 s2.heap.objs.size (.lst []) P2.objs.size=none;rw [zap (Ne.symm hDC)];exact hCn
     freeC:=fun y c e=>by
      obtain ⟨v,o,ho,hd⟩:=I2.cell y c (cl1 y c e)
      rw [zap (below c (Heap.lt_size ho)).2]
      exact I2.freeC y c (cl1 y c e)
     pin:=fun p hp=>by simp at hp
     hok:=hokD
     len:=by show (none::caps σ js).length=N.length;rw [S.len];simp [caps] }
  have st3:tn 0 h₁:=T.keep 0 _ _ st2 fun b _ o e=>old b o e
  have fr3:∀b∈fp,(upd H2 s2.heap.objs.size (.lst [])) b=none:=fun b hb=>by
   rw [zap (below b (fpl b hb)).2]
   exact (f2 b hb).1
  have stat:∀ {H':Hp},(∀b∈fp,H' b=none)→∀b∈fp,FpOk (zaz X N scope cl P2.objs.size s2 H2 fp) [] H' b:=fun hn b hb=>
   ⟨hn b hb,(below b (fpl b hb)).1,yok.exfs b hb,.inl hb,fun y c e=>(f2 b hb).2.2.2.2.1 y c (cl1 y c e),fun p hp=>by simp at hp⟩
  have pgn:PG (zaz X N scope cl P2.objs.size s2 H2 fp) (.Name x px) (zeQ 0):=zaO S.nd S.head (.inl (lookup_relabel_local S.own)) (.inr (lookup_relabel_local S.own))
  have loop:∀s₃:Shared,s₃ = { s2 with heap:=h₁,toks:=s2.toks+([]:List (Str × Value)).length }→
    codeAny (model X.prog X.w) X.A (.compLoop (.ListComp elt [⟨.Name x px,iter,ifs,0⟩] scope pos) 0 (.ref it) (.ref s2.heap.objs.size) (compEnvC scope cl P2.objs.size X.env))
     (compPost (model X.prog X.w) X.A X.xe none (EP X pins σ Q) (.ref s2.heap.objs.size) P2.objs.size) s₃:=by
   rintro s₃ rfl
   refine codeAny_loop rfl (fun n s'=>∃i o acc H',Inv (zaz X N scope cl P2.objs.size s2 H2 fp) [] (o::caps σ js) H' s'∧tn i s'.heap∧(∀b∈fp,H' b=none)∧W i n acc H') ?_ m0 ⟨0,none,[],_,I3,st3,fr3,w0⟩
   rintro n s4 ⟨i,o,acc,H4,I4,st4,fr4,w4⟩
   show wpAny _ X.A ((compTurn (.ListComp elt [⟨.Name x px,iter,ifs,0⟩] scope pos) 0 (.ref it) (.ref s2.heap.objs.size) (compEnvC scope cl P2.objs.size X.env)).onRaise (fun x=>do noteFrame x (compEnvC scope cl P2.objs.size X.env);theTreesLotGoes x)) _ _ s4
   refine wpAny_noted ?_
   rw [compTurn_list]
   refine wpAny_bind (wpAny_standAt (wpAny_bind ?_))
   obtain ⟨hD4,hz4,alt⟩:=turn i n acc H4 w4
   rcases alt with ⟨stop,qn⟩ | ⟨go,step⟩
   ·refine thn (T.done (zaz X N scope cl P2.objs.size s2 H2 fp) rfl rfl rfl hc i [] s4 _ H4 _ I4 (stat fr4) st4 stop) fun r s5 ⟨hr,I5⟩=>?_
    subst hr
    refine wpAny_pure ?_
    obtain ⟨m5,n5,_⟩:=I5.loc
    refine ⟨m5,n5,fun h' sb=>⟨.ref s2.heap.objs.size,H4,?_,rfl,qn⟩⟩
    have k5:∀b o,b≠P2.objs.size→s5.heap.get? b=some o→h'.get? b=some o:=fun b o hb e=>sb.extBut b o hb e
    have u5:=I5.base
    have nC:∀b o,s2.heap.get? b=some o→b≠P2.objs.size:=fun b o e=>(below b (Heap.lt_size e)).1
    refine I2.call' (s' := { s5 with heap:=h' }) (ch:=fp) I5.os ?_ ?_ I5.bare fun b hb=>⟨(f2 b hb).2.2.2.1,(f2 b hb).2.1,(f2 b hb).2.2.2.2.1,(f2 b hb).2.2.2.2.2⟩
    ·refine ⟨fun b o e n1 n2 n3=>k5 b o (nC b o e) (u5.keep b o e n1 n2 n3),fun b o e n1 n2 n3=>?_,u5.free,fun b o e n3=>?_,u5.tups,u5.frzs,u5.tbls⟩
     ·obtain ⟨sl,z⟩:=u5.slot b o e n1 n2 n3
      exact ⟨sl,k5 b _ (nC b o e) z⟩
     ·obtain ⟨o',z⟩:=u5.there b o e n3
      exact ⟨o',k5 b o' (nC b o e) z⟩
    ·intro b u e
     refine (I5.hok b u e).stay (fun c v hc q=>k5 c v ?_ q) (fun _ q=>q) (fun _ _ q=>q) fun _ _ _ q=>q
     rintro rfl
     rcases hc with z | z
     ·rw [←z,show H4 P2.objs.size=none from I5.free] at e;cases e
     ·have:=I5.free
      rw [show H4 P2.objs.size=none from I5.free] at z
      cases z
   ·refine thn (T.item (zaz X N scope cl P2.objs.size s2 H2 fp) rfl rfl rfl hc i [] s4 _ H4 _ I4 (stat fr4) st4 go) fun r s5 ⟨u,hr,h5⟩=>?_
    subst hr
    refine wpAny_bind (thn h5 fun _ s6 ⟨y,H6,I6,r6,y6,st6,fr6⟩=>?_)
    have I6':=I6.pinned (stat fr6) (T.obj _ _ st6)
    refine wpAny_bind (wpAny_mono (pgn _ s6 (o::caps σ js) H6 y u (fun σ' H' => σ'=some y::caps σ js∧H'=H6) I6' r6 ⟨rfl,rfl⟩) (fun _ s7 ⟨σ7,H7,I7,e7,e8⟩=>?_) fun _ _ z=>z.elim)
    subst e7 e8
    have back:∀ {s9:Shared} {H9:Hp} {acc9:List V} {m9:Nat},Inv (zaz X N scope cl P2.objs.size s2 H2 fp) ([]++zdT fp s6.heap) (some y::caps σ js) H9 s9→m9<n→W (i+1) m9 acc9 H9→
      ∃m,m<n∧∃i o acc H',Inv (zaz X N scope cl P2.objs.size s2 H2 fp) [] (o::caps σ js) H' s9∧tn i s9.heap∧(∀b∈fp,H' b=none)∧W i m acc H':=fun {s9 H9 acc9 m9} I9 hm w9=>by
     refine ⟨m9,hm,i+1,some y,acc9,H9,I9.unpinned,T.keep _ _ _ st6 fun b hb o e=>(I9.pin (b,o) (List.mem_append_right _ (List.mem_append_right _ (zbw hb e)))).1,fun b hb=>?_,w9⟩
     obtain ⟨o,e,d⟩:=T.obj _ _ st6 b hb
     exact (I9.pin (b,o) (List.mem_append_right _ (List.mem_append_right _ (zbw hb e)))).2.1
    refine wpAny_bind (wpAny_mono (ht cl _ s2 H2 fp _ s7 _ _ _ I7 (step y _ y6)) (fun ok s8 ⟨H8,I8,q8⟩=>?_) fun _ _ z=>z.elim)
    cases ok with
    | false=>
      obtain ⟨m9,hm,w9⟩:=q8
      exact wpAny_pure ⟨rfl,back I8 hm w9⟩
    | true=>
      refine wpAny_bind (wpAny_bind (wpAny_mono (he cl _ s2 H2 fp _ s8 _ _ _ I8 q8) (fun xv s9 ⟨v9,H9,I9,r9,hD9,q9⟩=>?_) fun _ _ z=>z.elim))
      refine wpAny_bind (wpAny_mono (zcZ (X:=zaz X N scope cl P2.objs.size s2 H2 fp) _ s9 _ H9 (.ref s2.heap.objs.size) [v9] (.ref s2.heap.objs.size) [xv] (fun _ H'=>H'=upd H9 s2.heap.objs.size (.lst (acc++[v9]))) I9 rfl (.cons r9 .nil) ⟨_,acc,v9,rfl,rfl,hD9,hz4,rfl⟩) (fun _ s10 ⟨v10,H10,I10,_,e10⟩=>?_) fun _ _ z=>z.elim)
      subst e10
      obtain ⟨m9,hm,w9⟩:=q9 _ (fun b o hb e=>by rw [zap hb];exact e) zar
      exact wpAny_pure (wpAny_pure ⟨rfl,back I10 hm w9⟩)
  exact codeAny_compStart_list (loop _ rfl) (T.self _ 0 _ _ _ st3 (loop _ rfl))
end L2
namespace M1
def gd (x y:Int):Int:=((Int.gcd x y:Nat):Int)
theorem gd_zero {x:Int} (h:0≤x):gd x 0=x:=by
 unfold gd
 rw [Int.gcd_zero_right]
 omega
theorem gd_step {x y:Int}:gd y (x % y)=gd x y:=by
 unfold gd
 have e:x % y=x+y*(-(x / y)):=by
  rw [Int.mul_neg,Int.emod_def]
  omega
 rw [Int.gcd_comm y,e,Int.gcd_add_mul_left_left]
theorem gd_pos {x y:Int} (h:0<y):0<gd x y:=by
 have:0<Int.gcd x y:=Int.gcd_pos_of_ne_zero_right x (by omega)
 unfold gd
 omega
theorem zfH (x y:Int):gd x y∣y:=Int.gcd_dvd_right x y
theorem gd_le {x y:Int} (h:0<y):gd x y≤y:=Int.le_of_dvd h (zfH x y)
end M1
namespace M2
open PySem PySem.NumText
end M2
namespace L2
open PySem PySem.Spec PyProof.Rows
section
variable {X:Cx} {tg:Expr}
theorem zik (bs:List Bool):(List.range bs.length).all (fun i=>(bs[i]?).getD true)=bs.all id:=by
 induction bs with
 | nil=>rfl
 | cons b r ih=>
   rw [List.length_cons,List.range_succ_eq_map,List.all_cons,List.all_map,List.all_cons,←ih]
   rfl
theorem zil (hc:X.calm=true):zdU X (.builtin "all") (fun xs H Q=>∃(p:Addr) (bs:List Bool),xs=[.ref p]∧SqL X.K H p (bs.map V.bl)∧Q (.bl (bs.all id)) H):=by
 intro pins s σ H xs us Q I r h
 obtain ⟨p,bs,rfl,hq,q⟩:=h
 obtain ⟨u,rfl,ru⟩:=zer r
 cases ru
 obtain ⟨its,rv,pl,hz⟩:=I.list hq
 have lt:p<s.heap.objs.size:=by
  obtain ⟨o,ho,_⟩:=pl.isList
  exact Heap.lt_size ho
 have hl:its.toArray.size=bs.length:=by
  have:=rv.length
  simp at this ⊢
  omega
 refine call_all_walk (wpAny_pyIter_list pl.isList ?_)
 refine ⟨s.heap.objs.size,_,_,_,_,_,fun i=>(bs[i]?).getD true,rfl,Walks.list (prog:=X.prog) (w:=X.w) (A:=X.A.in1) (show X.A.in1.handled=none from I.ok.hd hc) _ p (Nat.ne_of_lt lt) its.toArray,⟨⟨_,Heap.get?_push_size _ rfl,rfl,rfl⟩,pl.isList.at fun o e=>Heap.get?_push_of_some _ e⟩,fun i v s' Q' E' hP hQ'=>?_,fun h' tk kk=>?_⟩
 ·have hP':its[i]?=some v:=by simpa using hP
  cases e:bs[i]? with
  | none=>
    have h1:its.length≤i:=by
     have h2:=List.getElem?_eq_none_iff.mp e
     simp at hl
     omega
    rw [List.getElem?_eq_none h1] at hP'
    cases hP'
  | some b=>
    dsimp only at hQ'
    rw [e] at hQ'
    obtain ⟨u,hu,ru⟩:=rv.get (i:=i) (x:=.bl b) (by rw [List.getElem?_map,e];rfl)
    rw [hP'] at hu
    cases hu
    cases (show v=Value.bool b from ru)
    exact wpAny_truthy_bool hQ'
 ·rw [hl,zik]
  refine ⟨.bl _,H,I.kept (t':=tk) (h':=h') fun b o e=>kk b o ?_ (Heap.get?_push_of_some _ e),rfl,q⟩
  intro z
  have z:b=s.heap.objs.size:=by simpa using z
  exact Nat.ne_of_lt (Heap.lt_size e) z
theorem zim (hu:X.A.units<cLine):OpR X (compareOp .NotEq) (fun x y H Q=>∃a b xs ys,x=.ref a∧y=.ref b∧SqL X.K H a xs∧SqL X.K H b ys∧xs.all zcL=true∧ys.all zcL=true∧Q (.bl (!eqVs xs ys)) H):=by
 intro pins s σ H x y v u Q I rx ry h
 obtain ⟨a,b,xs,ys,rfl,rfl,hx,hy,fx,fy,q⟩:=h
 cases rx
 cases ry
 obtain ⟨its,r,pl,hz⟩:=I.list hx
 obtain ⟨its2,r2,pl2,hz2⟩:=I.list hy
 have e1:its.toArray.size=xs.length:=by simp [r.length]
 have e2:its2.toArray.size=ys.length:=by simp [r2.length]
 by_cases hl:xs.length=ys.length
 ·refine SeqAt.RcNeAt.lists (e:=eqJ xs ys) pl.isList pl2.isList (by omega) hu (fun j h1 h2=>zky r r2 fx fy j h1 h2) X.prog X.w X.xe _ ⟨.bl _,H,I,rfl,?_⟩
  have z:=zdZ xs ys
  rw [←hl,Nat.min_self] at z
  rw [e1]
  have z':(List.range xs.length).all (eqJ xs ys)=eqVs xs ys:=by
   rw [←z]
   simp
  rw [z']
  exact q
 ·refine SeqAt.RcNeAt.lists_lengths pl.isList pl2.isList ?_ hu X.prog X.w X.xe _ ⟨.bl _,H,I,rfl,?_⟩
  ·rw [e1,e2]
   simpa using hl
  ·rw [zgW hl] at q
   exact q
end
end L2
namespace L2
open PySem PySem.Spec PyProof.Rows
abbrev TJ:=Str→St→Hp→VK→Prop
section
variable {X:Cx} {e:Expr} {es:List Expr} {te:TE} {t:TJ} {pos:Pos}
structure Box (P:Prop):Prop where
 un:P
end
end L2
namespace PySem
open Sem (wp)
section
variable {prog:Program} {w:World} {A:Around} {E:Value→Shared→Prop} {h:Heap} {g:Array GenState} {d:Drawn} {t:Nat} {os:OsState}
variable {nm q:Str} {C N:Addr} {bs bm bmB:List Value} {hdct:Bool} {sn:List Str} {sub:List Value} {ab:Bool} {col:Option Bool} {dd:Option Addr} {k0 k1 k2 k3 k5:Option Value} {B newId initId:String}
end
end PySem
namespace PySem.W
open PySem PySem.Spec PySem.Calls PyProof.Rows Builtin Builtin.ObjectAttr
def bmVE:List Value:=[.type "ValueError",.type "Exception",.type "BaseException",.type "object"]
def zin:List Value→Bool
 | .ref _::r=>zin r
 | l=>l==bmVE
def xcIn (K:Frag) (C:Addr) (ini:Option Addr):Bool:=match K.lookup C with
 | some ⟨.type "type",_,.cls cd,sl⟩=>(match cd.mro,sl.toList with
   | .ref C'::bm,[_,_,_,_,some (.builtin n),_]=>C'==C&&n == "ValueError.__new__" && !cd.hasDel&&cd.hasDict&&tailIn K bmVE bm&&zin bm&&nsOkIn K cd.ns&&nsIn K cd.ns "__init__" == some (ini.map .ref)
   | _,_=>false)
 | _=>false
structure XcAt (h:Heap) (C:Addr) (ini:Option Addr):Prop where
 ex:∃nm q N bs bm sn sub ab col dd k0 k1 k2 k3 k5 mN,h.get? C=some (excClassObj nm q C N bs bm true sn sub ab col dd k0 k1 k2 k3 k5 "ValueError.__new__")∧h.Ns N mN∧mN "__init__" = ini.map .ref∧OwnTail h bmVE bm∧zin bm=true
end PySem.W
namespace PySem.W
open PySem PySem.Spec PySem.Calls PyProof.Rows Builtin Builtin.ObjectAttr
section
variable {prog:Program} {w:World} {A:Around} {K:Frag} {C x:Addr} {s:Shared} {R:Result→Shared→Prop}
end
end PySem.W
namespace PySem.W
open PySem PySem.Spec PySem.Calls PyProof.Rows Builtin Builtin.ObjectAttr
section
variable {prog:Program} {w:World} {A:Around} {K:Frag} {C x:Addr} {s:Shared} {ox:Obj} {od:Option Obj} {name:Str} {ini:Option Addr}
end
end PySem.W
namespace L2
open PySem PySem.Spec PyProof.Rows
abbrev xobj (C:Addr) (dx:Option Addr) (vs:Array Value):Obj := { cls:=.ref C,dict:=dx,data:=.fields vs }
def XcO (a C:Addr) (dx:Option Addr) (vs:Array Value):HO:=.ext fun h=>h.get? a=some (xobj C dx vs)
structure XCls (K:PySem.W.Frag) (C:Addr):Prop where
 xc:∃ini,PySem.W.xcIn K C ini=true
 sa:PySem.W.findIn K (.ref C) "__setattr__" = some (some (.builtin "object.__setattr__"))
 ga:PySem.W.findIn K (.ref C) "__getattribute__" = some (some (.builtin "BaseException.__getattribute__"))
 gn:PySem.W.findIn K (.ref C) "__getattr__" = some none
 hd:PySem.W.hasDictIn K C=true
 cl:PySem.W.findIn K (.ref C) "__class__" = some (some (.builtin "object.__class__"))
 cg:PySem.W.specialIn K (.builtin "object.__class__") "__get__" = some (some (.builtin "getset_descriptor.__get__"))
 ct:PySem.W.takesIn K (.builtin "object.__class__")=some true
 mo:PySem.W.mroIn K C (.type "object")=some true
section
variable {X:Cx} {pins:List (Addr × Obj)} {σ:St} {H:Hp} {s:Shared}
structure IsX (K:PySem.W.Frag) (H:Hp) (a C:Addr):Prop where
 cls:XCls K C
 at_:∃dx vs,H a=some (XcO a C dx vs)∧∀d,dx=some d→∃fs,H d=some (.xd fs)
end
end L2
namespace PySem
open L2 (xobj)
section
variable {M:Model} {A:Around} {E:Value→Shared→Prop} {s:Shared}
end
end PySem
namespace L2
open PySem PySem.Spec PyProof.Rows
def apart (X:Cx) (h:Heap) (e:Addr) (T:List Addr):Heap:=PySem.W.hideAll h (e::(T++frs X.stack))
section
variable {X:Cx} {pins:List (Addr × Obj)} {σ:St} {H:Hp} {s:Shared} {e C T:Addr} {dx:Option Addr} {vs:Array Value}
end
structure Flies (h:Heap) (H:Hp) (low:Nat) (a C T:Addr) (dx:Option Addr) (vs:Array Value):Prop where
 at_:H a=some (XcO a C dx vs)
 tr:vs[1]?=some (.ref T)
 new:low≤T
 free:H T=none
 ne:T≠a
 dict:∀y,dx=some y→∃fs,H y=some (.xd fs)
 recd:∃oT ts,h.get? T=some oT∧oT.data=.fields ts∧ts[3]?=some .none
def CX1 (P:Program) (w:World):CXT:=fun outer H s E e s'=>∃(a T C:Addr) (dx:Option Addr) (vs:Array Value) (H':Hp),e=.ref a∧s'.os=s.os∧AllBare s'.gens∧Un (frs outer) [] H H' s.heap s'.heap∧HOk P w H' s'.heap∧s.heap.objs.size≤s'.heap.objs.size∧
 Flies s'.heap H' s.heap.objs.size a C T dx vs∧∀vs',E (.ref C) (some a) (upd H' a (XcO a C dx vs'))
end L2
namespace L2
open PySem PySem.Spec PyProof.Rows
section
variable {X:Cx} {pins:List (Addr × Obj)} {σ:St} {H H1:Hp} {s s1:Shared} {a C T:Addr} {dx:Option Addr} {vs:Array Value}
end
section
variable {P:Program} {w:World} {K:PySem.W.Frag} {mg:Str→Option Value} {base:Heap} {N:List Str} {qual:Str} {scope:Scope} {f:Addr} {cd:Value} {A:Around} {outer:List Env} {s₀:Shared} {H₀:Hp} {E:XK}
end
section
variable {X:Cx} {pins:List (Addr × Obj)} {σ:St} {H:Hp} {s:Shared}
end
structure XMk (K:PySem.W.Frag) (C:Addr) (ini:Option Addr):Prop where
 cls:XCls K C
 xc:PySem.W.xcIn K C ini=true
 kp:PySem.W.keepIn K (.ref C)=true
 fn:∀f,ini=some f→PySem.W.isFn K (.ref f)=true
def zlj (K:PySem.W.Frag) (C:Addr) (f:Str):Sp:=fun vs H Q _=>∃a v ws,vs=[.ref a,v]∧XCls K C∧zgR K C f∧H a=some (XcO a C none ws)∧
 ∀d H2,(∀b o,b≠a→H b=some o→H2 b=some o)→H d=none→H2 a=some (XcO a C (some d) ws)→H2 d=some (.xd [(f,v)])→Q .non H2
section
variable {X:Cx} {k:Nat} {fI C:Addr} {fd:FuncData} {ps:List Str} {x fn:Str} {p pos:Pos} {e:Expr} {es:List Expr} {t:TA}
end
section
variable {P:Program} {w:World} {K:PySem.W.Frag} {mg:Str→Option Value} {base:Heap} {N:List Str} {qual:Str} {scope:Scope} {f:Addr} {cd:Value} {A:Around} {outer:List Env} {s₀:Shared} {H₀:Hp} {E:XK}
end
end L2
namespace L2
open PySem PySem.Spec PyProof.Rows
section
variable {X:Cx} {σ:St}
end
structure Aside (X:Cx) (pins:List (Addr × Obj)) (b:Addr):Prop where
 p:X.s₀.heap.objs.size≤b∧b≠X.env.locals∧(∀x c,X.env.cells.lookup x=some c→c≠b)∧∀p∈X.pn++pins,p.1≠b
section
variable {X:Cx} {pins pins':List (Addr × Obj)} {σ τ:St} {H:Hp} {s:Shared} {W:XK}
end
structure Cal1 (P:Program) (w:World) (K:PySem.W.Frag) (mg:Str→Option Value) (base:Heap) (x:Str) (k:Nat) (ps:List Str) (sp:Sp):Prop where
 ex:∃f fd,FnOk P w K mg base (CX1 P w) k f fd ps sp∧zbN K fd ps []∧mg x=some (.ref f)∧PySem.W.keepIn K (.ref f)=true
section
variable {X:Cx} {k:Nat} {ps:List Str} {sp:Sp} {x:Str} {p pos:Pos} {e:Expr} {es:List Expr} {t:TA}
end
abbrev TH:=Addr→Addr→Hp→St→Ends→Prop
structure AtH (X:Cx) (pins:List (Addr × Obj)) (σ:St) (H:Hp) (a C:Addr) (dx:Option Addr) (s:Shared):Prop where
 I:Inv X pins σ H s
 ex:∃T vs,Flies s.heap H 0 a C T dx vs∧Aside X pins T
section
variable {X:Cx} {Dc:Addr} {i:Nat} {n d:Str} {np pos:Pos} {b₀:Stmt} {suite:List Stmt} {rest:List ExceptHandler} {ts:TS} {tr:TH}
end
end L2
namespace L2
open PySem PySem.Spec PyProof.Rows
inductive TyX (K:PySem.W.Frag) (H:Hp):V→Value→Prop where
 | old {x:V} {t:Value} (h:TyOf K H x t):TyX K H x t
 | exc {a C:Addr} (h:IsX K H a C):TyX K H (.ref a) (.ref C)
section
variable {X:Cx}
end
structure XD (K:PySem.W.Frag) (C:Addr) (up:List Value):Prop where
 cd:∃cd,PySem.W.clsIn K C=some cd∧cd.mro=.ref C::up
 ty:PySem.W.typeIn K (.ref C)=some (.type "type")
structure XCal (P:Program) (w:World) (K:PySem.W.Frag) (mg:Str→Option Value) (base:Heap) (x:Str) (C:Addr) (f:Str):Prop where
 ex:∃fI fd ps,XMk K C (some fI)∧zgR K C f∧FnOk P w K mg base CX0 1 fI fd ps (zlj K C f)∧zbN K fd ps []∧mg x=some (.ref C)
structure XCal0 (K:PySem.W.Frag) (mg:Str→Option Value) (x:Str) (C:Addr):Prop where
 made:XMk K C none
 m:mg x=some (.ref C)
section
variable {X:Cx} {C:Addr} {f x:Str} {p pos:Pos} {e:Expr} {es:List Expr} {t:TA}
end
section
variable {X:Cx}
end
end L2
namespace L2
open PySem PySem.Spec PyProof.Rows
section
variable {X:Cx}
end
structure Told (K:PySem.W.Frag) (H:Hp) (a C:Addr) (f:Str) (v:V):Prop where
 ex:∃d ws,H a=some (XcO a C (some d) ws)∧H d=some (.xd [(f,v)])
structure Cl where
 n:Int
 wt:Int
 wb:Int
 st:Int
 sb:Int
 came:Int
structure Cl.Ok (c:Cl):Prop where
 n0:0≤c.n
 w0:0≤c.wt
 w1:c.wt≤1000000
 w2:1≤c.wb
 w3:c.wb≤12
 s0:0≤c.st
 s1:c.st≤1000000
 s2:1≤c.sb
 s3:c.sb≤12
 c0:0≤c.came
 c1:c.came≤1000000000000000
structure IsCl (K:PySem.W.Frag) (H:Hp) (p:Addr) (c:Cl):Prop where
 ex:∃pw ps,H p=some (.tup [.int c.n,.ref pw,.ref ps,.int c.came])∧H pw=some (.tup [.int c.wt,.int c.wb])∧H ps=some (.tup [.int c.st,.int c.sb])
theorem IsCl.same {K:PySem.W.Frag} {H H':Hp} {p:Addr} {c:Cl} (s:Same H H') (h:IsCl K H p c):IsCl K H' p c:=let ⟨pw,ps,a,b,d⟩:=h.ex;⟨pw,ps,s _ _ a,s _ _ b,s _ _ d⟩
end L2
namespace L2
open PySem PySem.Spec PyProof.Rows
def But (p:Addr) (H H':Hp):Prop:=∀b o,b≠p→H b=some o→H' b=some o
theorem But.trans {p:Addr} {H H1 H2:Hp} (a:But p H H1) (b:But p H1 H2):But p H H2:=fun c o hc h=>b c o hc (a c o hc h)
theorem Same.toBut {p:Addr} {H H':Hp} (s:Same H H'):But p H H':=fun c o _ h=>s c o h
theorem Same.but {p:Addr} {H0 H H':Hp} (s:Same H0 H) (n:H0 p=none) (b:But p H H'):Same H0 H':=fun c o h=>b c o (zbi h n) (s c o h)
theorem But.upd (p:Addr) (H:Hp) (o:HO):But p H (L2.upd H p o):=fun c u hc h=>by rw [zap hc];exact h
theorem IsCl.but {K:PySem.W.Frag} {H H':Hp} {p q:Addr} {c:Cl} {xs:List V} (b:But q H H') (hq:H q=some (.lst xs)) (h:IsCl K H p c):IsCl K H' p c:=by
 obtain ⟨pw,ps,e1,e2,e3⟩:=h.ex
 exact ⟨pw,ps,b _ _ (zjo e1 hq (by intro z;cases z)) e1,b _ _ (zjo e2 hq (by intro z;cases z)) e2,b _ _ (zjo e3 hq (by intro z;cases z)) e3⟩
section
variable {X:Cx}
def zjE:V→List V→Hp→VK→Prop:=fun x vs H Q=>∃l xs y,x=.ref l∧vs=[y]∧H l=some (.lst xs)∧xs.length<sizeLine∧∀H2,But l H H2→H2 l=some (.lst (xs++[y]))→Q .non H2
theorem zdc:MtR X "list.append" zjE:=by
 intro pins s σ H x vs v us Q I rx rv h
 obtain ⟨l,xs,y,e1,e2,hp,hz,q⟩:=h
 exact zcZ pins s σ H x vs v us Q I rx rv ⟨l,xs,y,e1,e2,hp,hz,q _ (But.upd l H _) zar⟩
def znf (K:PySem.W.Frag):V→Option Int→Option Int→Hp→VK→Prop:=fun x lo hi H Q=>∃a xs,x=.ref a∧SqL K H a xs∧∀p H2,Same H H2→H p=none→H2 p=some (.lst (cutV xs lo hi))→Q (.ref p) H2
theorem zdO:SlR X (znf X.K):=by
 intro pins s σ H v u vl vu lo hi sl Q I rx hs pl pu h
 obtain ⟨a,xs,e,hx,q⟩:=h
 exact zld pins s σ H v u vl vu lo hi sl Q I rx hs pl pu ⟨a,xs,e,hx,fun p n=>q p _ (zby n _) n zar⟩
end
structure IsW (H:Hp) (p:Addr) (t b:Int):Prop where
 at_:H p=some (.tup [.int t,.int b])
 t0:0≤t
 t1:t≤1000000
 b0:1≤b
 b1:b≤12
theorem IsW.same {H H':Hp} {p:Addr} {t b:Int} (s:Same H H') (h:IsW H p t b):IsW H' p t b:=⟨s _ _ h.at_,h.t0,h.t1,h.b0,h.b1⟩
end L2
namespace L2
open PySem
def wtop (c:Cl) (t:Int):Int:=c.wt*c.sb+(t-c.came)*c.st*c.wb
def wbot (c:Cl):Int:=c.wb*c.sb
theorem zd0 {c:Cl} (h:c.Ok):0<wbot c:=Int.mul_pos (by have:=h.w2;omega) (by have:=h.s2;omega)
def gap (c d:Cl) (t:Int):Int:=wtop c t*wbot d-wtop d t*wbot c
theorem zgY (c d:Cl) (t:Int):gap d c t = - gap c d t:=by unfold gap;omega
def tie (c d:Cl):Bool:=decide (c.came<d.came∨(c.came=d.came∧c.n<d.n))
def ahd (c d:Cl) (t:Int):Bool:=if gap c d t=0 then tie c d else decide (0<gap c d t)
theorem zjF {c d:Cl} (h:c.n≠d.n):tie d c = !tie c d:=by
 unfold tie
 rw [Bool.eq_iff_iff,Bool.not_eq_true',decide_eq_true_iff,decide_eq_false_iff_not]
 omega
theorem zgZ {c d:Cl} (h:c.n≠d.n) (t:Int):ahd d c t = !ahd c d t:=by
 unfold ahd
 rw [zgY c d t]
 by_cases z:gap c d t=0
 ·rw [if_pos (by omega),if_pos z,zjF h]
 ·rw [if_neg (by omega),if_neg z,Bool.eq_iff_iff,Bool.not_eq_true',decide_eq_true_iff,decide_eq_false_iff_not]
  omega
inductive Pass (b l:Cl) (t:Int):V→Prop where
 | no (h:∀u,t≤u→ahd b l u=false):Pass b l t .non
 | at_ (u:Int) (h1:t<u) (h2:ahd b l u=true) (h3:∀v,t≤v→v<u→ahd b l v=false):Pass b l t (.int u)
structure PassOf (c d:Cl) (t:Int) (v:V):Prop where
 one:ahd c d t=true→Pass d c t v
 two:ahd c d t=false→Pass c d t v
structure IsLc (H:Hp) (l:Addr) (n:Int) (c:Int):Prop where
 ex:∃w s t b u d,H l=some (.lst [.int n,.ref w,.ref s,.int c])∧IsW H w t b∧IsW H s u d
 c0:0≤c
 c1:c≤1000000000000000
def sg (x y:Int):Int:=if x<y then -1 else if y<x then 1 else 0
end L2
namespace L2
open PySem PySem.Spec PyProof.Rows
section
variable {X:Cx}
def zng:V→List V→Hp→VK→Prop:=fun x vs H Q=>∃l xs,x=.ref l∧vs=[]∧H l=some (.lst xs)∧∀H2,But l H H2→H2 l=some (.lst xs.reverse)→Q .non H2
theorem zlk:MtM X "list.reverse" zng:=by
 intro pins s σ H x vs v us Q I rx rv h
 obtain ⟨l,xs,e1,e2,hp,q⟩:=h
 exact zhA pins s σ H x vs v us Q I rx rv ⟨l,xs,e1,e2,hp,q _ (But.upd l H _) zar⟩
end
end L2
namespace L2
open PySem PySem.Spec PyProof.Rows
theorem Inv.turnedL {X:Cx} {pins:List (Addr × Obj)} {σ:St} {H:Hp} {s:Shared} {h':Heap} {t':Nat} {fp:List Addr} (I:Inv X pins σ H s) (k:∀b o,b∉fp→s.heap.get? b=some o→h'.get? b=some o) (hf:∀b∈fp,FpOk X pins H b):
  Inv X pins σ H { s with heap:=h',toks:=t' }:=by
 have nit:∀b u,H b=some u→b∉fp:=fun b u e z=>by rw [(hf b z).1] at e;cases e
 refine I.step (g':=s.gens) (d':=s.drawn) (ch:=fp) (fun b hb=>?_) (fun b o _ _ hc e _=>k b o hc e) (fun b o _ _ hc e _=>⟨o.slots,k b o hc e⟩) (fun _ _ _ _ n=>n)
  (fun b o hc e=>⟨o,k b o hc e⟩) (fun _ _ e=>e) (fun _ _ _ e=>e) (fun _ _ _ e=>e) (fun m hm=>?_) (fun b u e=>?_) I.bare
 ·obtain ⟨f0,f1,f2,f3,f4,f5⟩:=hf b hb
  exact ⟨f3,f1,f4,f5⟩
 ·obtain ⟨o,es,ep,ho,r⟩:=hm
  exact ⟨o,es,ep,k _ o (fun z=>(hf _ z).2.1 rfl) ho,r⟩
 ·refine (I.hok b u e).stay (fun c v hc q=>k c v ?_ q) (fun _ q=>q) (fun _ _ q=>q) fun _ _ _ q=>q
  rcases hc with z | z
  ·rw [z];exact nit b u e
  ·exact nit c _ z
def Ite (K:PySem.W.Frag) (a:Addr):It:=
 ⟨fun i H=>∃xs x,SqL K H a xs∧xs[i]?=some x,fun i H x H'=>∃p y,x=.ref p∧Same H H'∧H p=none∧H' p=some (.tup [.int i,y])∧∀xs,SqL K H a xs→xs[i]?=some y,fun i H=>∃xs,SqL K H a xs∧xs.length≤i⟩
theorem zio {P:Program} {w:World} {K:PySem.W.Frag} {elts:List Expr} {x1} {pos:Pos} (a e it:Addr) (hne:e≠it):
  Turn P w K (.Tuple elts x1 pos) (Ite K a) [e,it] e (fun i h=>(∃old,IsEnum h e it i old)∧h.IsListIter it a i) where
 mem:=by simp
 obj:=fun i h st b hb=>by
  obtain ⟨⟨old,he⟩,o,ho,c,d⟩:=st
  rcases List.mem_cons.mp hb with rfl | hb
  ·exact ⟨_,he,fun v z=>by
    have z':Data.fields _=Data.cell v:=z
    cases z'⟩
  ·have e:b=it:=by simpa using hb
   subst e
   exact ⟨o,ho,fun v z=>by rw [d] at z;cases z⟩
 keep:=fun i h h' st k=>⟨let ⟨old,he⟩:=st.1;⟨old,k e (by simp) _ he⟩,st.2.at fun o q=>k it (by simp) o q⟩
 item:=by
  intro X hP hw hK hc i pins s σ H E I hf st hg
  subst hP hw hK
  obtain ⟨xs,x,hq,hx⟩:=hg
  obtain ⟨its,rv,p,hz⟩:=I.list hq
  obtain ⟨u,hu,ru⟩:=rv.get hx
  obtain ⟨⟨old,he⟩,hit⟩:=st
  have el:e<s.heap.objs.size:=Heap.lt_size he
  have il:it<s.heap.objs.size:=by obtain ⟨o,y,_⟩:=id hit;exact Heap.lt_size y
  refine wpAny_pyNext_enum_item he hit p.isList (x:=u) (by simpa using hu) hne fun h' ho hit' hT hsz hk=>?_
  refine ⟨_,rfl,wpAny_letOwnedTupleGo_enum ho fun h'' he'' hs''=>?_⟩
  have fr:H s.heap.objs.size=none:=I.hok.fresh (Nat.le_refl _)
  have I1:Inv X pins σ (upd H s.heap.objs.size (.tup [.int i,x])) { s with heap:=s.heap.push { cls:=.type "tuple",data:=.seq #[.int i s.toks,u] },toks:=s.toks }:=
   I.laid (fun b o q=>Heap.get?_push_of_some _ q) (Nat.le_refl _) ⟨by show 2≤sizeLine;decide,[.int i s.toks,u],.cons ⟨_,rfl⟩ (.cons ru .nil),_,Heap.get?_push_size _ rfl,rfl,_,rfl⟩
  have hf1:∀b∈[e,it],FpOk X pins (upd H s.heap.objs.size (.tup [.int i,x])) b:=fun b hb=>by
   have nb:b≠s.heap.objs.size:=by
    simp only [List.mem_cons,List.not_mem_nil,or_false] at hb
    rcases hb with rfl | rfl
    ·exact Nat.ne_of_lt el
    ·exact Nat.ne_of_lt il
   exact ⟨by rw [zap nb];exact (hf b hb).1,(hf b hb).2⟩
  have I2:Inv X pins σ (upd H s.heap.objs.size (.tup [.int i,x])) { s with heap:=h'',toks:=s.toks+1 }:=by
   refine Inv.turnedL (s := { s with heap:=s.heap.push { cls:=.type "tuple",data:=.seq #[.int i s.toks,u] },toks:=s.toks }) (fp:=[e,it]) I1 (fun b o hb q=>?_) hf1
   have q:(s.heap.push { cls:=.type "tuple",data:=.seq #[.int i s.toks,u] }).get? b=some o:=q
   simp only [List.mem_cons,List.not_mem_nil,or_false,not_or] at hb
   refine hs''.extBut b o hb.1 ?_
   rcases Heap.get?_push_cases q with ⟨e1,e2⟩ | q'
   ·subst e1 e2
    exact hT
   ·exact hk b o hb.1 hb.2 q'
  refine ⟨.ref s.heap.objs.size,_,I2,rfl,⟨_,x,rfl,zby fr _,fr,zar,fun ys hy=>by rw [I.list_inj hy hq];exact hx⟩,⟨⟨_,by simpa using he''⟩,hit'.extBut hs''.extBut (Ne.symm hne)⟩,fun b hb=>(hf1 b hb).1⟩
 done:=by
  intro X hP hw hK hc i pins s σ H E I hf st hg
  subst hP hw hK
  obtain ⟨xs,hq,hx⟩:=hg
  obtain ⟨its,rv,p,hz⟩:=I.list hq
  obtain ⟨f0,f1,f2,f3,f4,f5⟩:=hf it (by simp)
  obtain ⟨⟨old,he⟩,hit⟩:=st
  have hl:=rv.length
  exact wpAny_pyNext_enum_end (I.ok.hd hc) he hit p.isList (by simp;omega) fun h' eb=>⟨rfl,I.turned (t':=s.toks) (fun b o hb e=>eb b o hb e) f0 f1 f3 f4 f5⟩
 self:=fun _ _ _ _ _ st h=>let ⟨_,he⟩:=st.1;wpAny_pyIter_enum he h
theorem zfI:bootBuiltins "enumerate" = some (.type "enumerate"):=by decide +kernel
def znh (K:PySem.W.Frag) (ta:TA):TI:=fun σ H R=>ta σ H fun vs H1=>∃a,vs=[.ref a]∧(∃xs,SqL K H1 a xs)∧R (Ite K a) H1
theorem ziq {X:Cx} {elts:List Expr} {x1} {pos':Pos} {a:Expr} {ta:TA} {p pos:Pos} (hg:Gl X "enumerate") (hm:X.mg "enumerate" = none) (ha:PA X [a] ta) (hs:starEach [a] X.env=[(false,eval a X.env)]:=by rfl):
  PI X (.Tuple elts x1 pos') (.Call (.Name "enumerate" p) [a] [] pos) (znh X.K ta):=by
 with_unfolding_all
  intro pins s σ H R I h
  refine Call_ (zdu I hg hm zfI (PyProof.Rows.callWith_type1 (thn (ha pos pins s σ H _ I h) fun us s1 ⟨vs,H1,I1,r1,q1⟩=>?_) hs rfl))
  obtain ⟨l,e,⟨xs,hq⟩,q⟩:=q1
  subst e
  cases r1 with
  | cons r rr=>
    cases rr
    cases r
    obtain ⟨its,rv,pl,hz⟩:=I1.list hq
    refine call_enumerate_list pl.isList fun h' he hit hsz hk=>?_
    refine wpAny_pyIter_enum he ?_
    have I2:Inv X pins σ H1 { s1 with heap:=h',toks:=s1.toks }:=I1.kept hk
    refine ⟨s1.heap.objs.size+1,[s1.heap.objs.size+1,s1.heap.objs.size],_,_,H1,rfl,I2,zio l _ _ (Nat.succ_ne_self _),⟨⟨_,he⟩,hit⟩,fun b hb=>?_,q⟩
    simp only [List.mem_cons,List.not_mem_nil,or_false] at hb
    rcases hb with rfl | rfl
    ·exact I1.fpOk (Nat.le_succ _) (I1.hok.fresh (Nat.le_succ _))
    ·exact I1.fpOk (Nat.le_refl _) (I1.hok.fresh (Nat.le_refl _))
theorem zg0 {K:PySem.W.Frag} {a:Addr} {xs:List V} {g:TG} {tb:TS} {D:Ends} {σ:St} {H:Hp} (Pv:Nat→St→Hp→Prop) (h0:Pv 0 σ H) (hl:∀i σ H,i≤xs.length→Pv i σ H→SqL K H a xs)
  (hs:∀i x σ H p H1,xs[i]?=some x→Pv i σ H→Same H H1→H p=none→H1 p=some (.tup [.int i,x])→g (.ref p) σ H1 fun σ2 H2=>tb { D with nx:=Pv (i+1),ct:=Pv (i+1),bk:=D.nx } σ2 H2) (hd:∀ σ H,Pv xs.length σ H→D.nx σ H):
  ∃W:Nat→Nat→St→Hp→Prop,(∃m,W 0 m σ H)∧∀i m σ H,W i m σ H→
   ((Ite K a).stop i H∧D.nx σ H)∨((Ite K a).go i H∧∃N:St→Hp→Prop,(∀ σ' H',N σ' H'→∃m',m'<m∧W (i+1) m' σ' H')∧∀x H',(Ite K a).yld i H x H'→g x σ H' fun σ2 H2=>tb { D with nx:=N,ct:=N,bk:=D.nx } σ2 H2):=by
 refine ⟨fun i m σ H=>m=xs.length-i∧i≤xs.length∧Pv i σ H,⟨xs.length,by simp,Nat.zero_le _,h0⟩,?_⟩
 rintro i m σ H ⟨rfl,hi,p⟩
 have q:=hl i σ H hi p
 by_cases hlt:i<xs.length
 ·refine .inr ⟨⟨xs,xs[i],q,by simp [hlt]⟩,Pv (i+1),fun σ' H' p'=>⟨xs.length-(i+1),by omega,rfl,hlt,p'⟩,fun x H' y=>?_⟩
  obtain ⟨pp,y',rfl,sm,n0,h1,y⟩:=y
  exact hs i y' σ H pp H' (y xs q) p sm n0 h1
 ·have e:i=xs.length:=by omega
  subst e
  exact .inl ⟨⟨xs,q,Nat.le_refl _⟩,hd σ H p⟩
end L2
namespace L2
open PySem PySem.Spec PyProof.Rows
section
variable {X:Cx}
theorem zir (hc:X.calm=true):zdU X (.builtin "min") (fun xs H Q=>∃(a:Addr) (ns:List Int),xs=[.ref a]∧SqL X.K H a (ns.map V.int)∧0<ns.length∧∀M,M∈ns→(∀y,y∈ns→M≤y)→Q (.int M) H):=by
 intro pins s σ H xs us Q I r h
 obtain ⟨a,ns,rfl,hq,hn,q⟩:=h
 obtain ⟨u,rfl,r1⟩:=zer r
 cases (show u=Value.ref a from r1)
 obtain ⟨its,rv,p,hz⟩:=I.list hq
 have hi:IntsAre its ns:=zc9 rv
 obtain ⟨xs,e⟩:=hi.allInts.items
 have hns:ns=xs.toList.map (·.1):=by
  rw [←hi.numsOf,←nums_intItems,←e]
 have hsz:0<xs.size:=by
  have h3:=hn;rw [hns,List.length_map,Array.length_toList] at h3;exact h3
 have hl:=p.isList
 rw [e] at hl
 refine min_intList (I.ok.hd hc) hl hsz fun v h' tk hv hk=>?_
 obtain ⟨t,rfl⟩:=intItems_at hv
 obtain ⟨h1,h2⟩:=argBest_lt (numAt xs) (xs.size-1)
 refine ⟨.int _,H,I.kept hk,⟨_,rfl⟩,q _ ?_ fun y hy=>?_⟩
 ·rw [hns,numAt_eq];exact getD_mem (by rw [List.length_map,Array.length_toList];omega)
 ·rw [hns] at hy
  obtain ⟨j,hj,rfl⟩:=mem_getD hy
  rw [List.length_map,Array.length_toList] at hj
  rw [←numAt_eq];exact h2 j (by omega)
end
end L2
namespace L2
open PySem PySem.Spec PyProof.Rows
section
variable {X:Cx} {pins:List (Addr × Obj)} {σ:St} {H:Hp} {s:Shared}
end
section
variable {X:Cx}
end
end L2
namespace L2
open PySem
theorem zis (c d e:Cl) (t:Int):gap c e t*wbot d=gap c d t*wbot e+gap d e t*wbot c:=by
 unfold gap
 rw [Int.sub_mul,Int.sub_mul,Int.sub_mul]
 rw [show wtop c t*wbot e*wbot d=wtop c t*wbot d*wbot e by ac_rfl,show wtop e t*wbot c*wbot d=wtop e t*wbot d*wbot c by ac_rfl,show wtop d t*wbot e*wbot c=wtop d t*wbot c*wbot e by ac_rfl]
 omega
theorem zit {c d:Cl} {t:Int}:ahd c d t=true↔0<gap c d t∨(gap c d t=0∧tie c d=true):=by
 unfold ahd
 by_cases z:gap c d t=0
 ·rw [if_pos z]
  constructor
  ·intro h
   exact .inr ⟨z,h⟩
  ·rintro (h | h)
   ·omega
   ·exact h.2
 ·rw [if_neg z,decide_eq_true_iff]
  constructor
  ·exact .inl
  ·rintro (h | h)
   ·exact h
   ·exact absurd h.1 z
theorem ziu {c d e:Cl} (h1:tie c d=true) (h2:tie d e=true):tie c e=true:=by
 unfold tie at *
 rw [decide_eq_true_iff] at *
 omega
theorem zfJ {c d e:Cl} {t:Int} (oc:c.Ok) (od:d.Ok) (oe:e.Ok) (h1:ahd c d t=true) (h2:ahd d e t=true):ahd c e t=true:=by
 rw [zit] at *
 have k:=zis c d e t
 have b1:=zd0 oc
 have b2:=zd0 od
 have b3:=zd0 oe
 have g1:0≤gap c d t:=by omega
 have g2:0≤gap d e t:=by omega
 have m1:=Int.mul_nonneg g1 (show 0≤wbot e by omega)
 have m2:=Int.mul_nonneg g2 (show 0≤wbot c by omega)
 rcases h1 with h1 | ⟨z1,h1⟩
 ·have:=Int.mul_pos h1 b3
  refine .inl (Int.not_le.mp fun le=>?_)
  have:=Int.mul_nonpos_of_nonpos_of_nonneg le (show 0≤wbot d by omega)
  omega
 ·rcases h2 with h2 | ⟨z2,h2⟩
  ·have:=Int.mul_pos h2 b1
   refine .inl (Int.not_le.mp fun le=>?_)
   have:=Int.mul_nonpos_of_nonpos_of_nonneg le (show 0≤wbot d by omega)
   omega
  ·refine .inr ⟨?_,ziu h1 h2⟩
   rw [z1,z2,Int.zero_mul,Int.zero_mul,Int.add_zero] at k
   rcases Int.mul_eq_zero.mp k with z | z
   ·exact z
   ·omega
def ins (t:Int) (c:Cl):List Cl→List Cl
 | []=>[c]
 | d::ds=>if ahd d c t=true then d::ins t c ds else c::d::ds
def ord (cs:List Cl) (t:Int):List Cl:=cs.foldl (fun acc c=>ins t c acc) []
theorem zdP (t:Int) (c:Cl):∀l,(ins t c l).Perm (c::l)
 | []=>.refl _
 | d::ds=>by
   unfold ins
   split
   ·exact ((zdP t c ds).cons d).trans (.swap c d ds)
   ·exact .refl _
theorem zd1 (t:Int):∀(cs acc:List Cl),(cs.foldl (fun acc c=>ins t c acc) acc).Perm (cs++acc)
 | [],acc=>.refl _
 | c::cs,acc=>by
   rw [List.foldl_cons]
   refine (zd1 t cs (ins t c acc)).trans ?_
   refine ((zdP t c acc).append_left cs).trans ?_
   exact List.perm_middle
theorem zbI (cs:List Cl) (t:Int):(ord cs t).Perm cs:=by
 have:=zd1 t cs []
 rw [List.append_nil] at this
 exact this
structure Good (cs:List Cl):Prop where
 ok:∀c,c∈cs→c.Ok
 nd:(cs.map (·.n)).Nodup
abbrev Srt (t:Int) (l:List Cl):Prop:=l.Pairwise fun c d=>ahd c d t=true
theorem ziv {t:Int} {c:Cl} (oc:c.Ok):∀ {l:List Cl},(∀d,d∈l→d.Ok∧d.n≠c.n)→Srt t l→Srt t (ins t c l)
 | [],_,_=>List.pairwise_singleton _ _
 | d::ds,ho,hs=>by
   obtain ⟨h1,h2⟩:=List.pairwise_cons.mp hs
   obtain ⟨od,nd⟩:=ho d (List.mem_cons_self ..)
   have ho':∀e,e∈ds→e.Ok∧e.n≠c.n:=fun e he=>ho e (List.mem_cons_of_mem _ he)
   unfold ins
   split
   ·rename_i hd
    refine List.pairwise_cons.mpr ⟨fun e he=>?_,ziv oc ho' h2⟩
    rcases List.mem_cons.mp ((zdP t c ds).mem_iff.mp he) with rfl | he
    ·exact hd
    ·exact h1 e he
   ·rename_i hd
    have cd:ahd c d t=true:=by
     rw [zgZ nd]
     simpa using hd
    refine List.pairwise_cons.mpr ⟨fun e he=>?_,hs⟩
    rcases List.mem_cons.mp he with rfl | he
    ·exact cd
    ·exact zfJ oc od (ho' e he).1 cd (h1 e he)
theorem zeB (t:Int):∀(cs acc:List Cl),Good (cs++acc)→Srt t acc→Srt t (cs.foldl (fun acc c=>ins t c acc) acc)
 | [],acc,_,h=>h
 | c::cs,acc,g,h=>by
   rw [List.foldl_cons]
   have g':Good (cs++ins t c acc):=by
    have pm:(cs++ins t c acc).Perm (c::cs++acc):=((zdP t c acc).append_left cs).trans List.perm_middle
    exact ⟨fun e he=>g.ok e (pm.mem_iff.mp he),(pm.map (·.n)).nodup_iff.mpr g.nd⟩
   refine zeB t cs _ g' (ziv (g.ok c (by simp)) (fun d hd=>⟨g.ok d (by simp [hd]),fun e=>?_⟩) h)
   have nd:=g.nd
   rw [List.cons_append,List.map_cons,List.nodup_cons] at nd
   exact nd.1 (by rw [←e];exact List.mem_map.mpr ⟨d,by simp [hd],rfl⟩)
theorem zgj {cs:List Cl} (g:Good cs) (t:Int):Srt t (ord cs t):=zeB t cs [] (by rw [List.append_nil];exact g) .nil
theorem zd2 {c d:Cl} {t:Int} (h1:ahd c d t=true) (h2:ahd d c t=true):False:=by
 rw [zit] at *
 rw [zgY c d t] at h2
 have z:gap c d t=0:=by omega
 have t1:tie c d=true:=by
  rcases h1 with h | h
  ·omega
  ·exact h.2
 have t2:tie d c=true:=by
  rcases h2 with h | h
  ·omega
  ·exact h.2
 unfold tie at t1 t2
 rw [decide_eq_true_iff] at t1 t2
 omega
theorem zg1 {t:Int}:∀ {l m:List Cl},l.Perm m→Srt t l→Srt t m→l=m
 | [],m,p,_,_=>(List.Perm.nil_eq p)
 | c::l,[],p,_,_=>absurd (List.Perm.length_eq p) (by simp)
 | c::l,d::m,p,hl,hm=>by
   obtain ⟨l1,l2⟩:=List.pairwise_cons.mp hl
   obtain ⟨m1,m2⟩:=List.pairwise_cons.mp hm
   have e:c=d:=by
    rcases List.mem_cons.mp (p.mem_iff.mp (List.mem_cons_self (a:=c) (l:=l))) with e | hc
    ·exact e
    ·rcases List.mem_cons.mp (p.mem_iff.mpr (List.mem_cons_self (a:=d) (l:=m))) with e | hd
     ·exact e.symm
     ·exact (zd2 (l1 d hd) (m1 c hc)).elim
   subst e
   rw [zg1 ((List.perm_cons c).mp p) l2 m2]
theorem zjG {cs l:List Cl} {t:Int} (g:Good cs) (p:l.Perm cs) (h:Srt t l):l=ord cs t:=zg1 (p.trans (zbI cs t).symm) h (zgj g t)
end L2
namespace L2
open PySem PySem.Spec PyProof.Rows
theorem zcc {K:PySem.W.Frag} {a:Addr} {xs:List V} {js:List Nat} {tc:TT} {te:TE} {σ:St} {H1:Hp} {Q:VK} (p:Nat→Bool) (f:Nat→V) (hl:SqL K H1 a xs)
  (ht:∀i x Hh (Q':Bool→Hp→Prop),xs[i]?=some x→Same H1 Hh→(∀Hh',Same Hh Hh'→Q' (p i) Hh')→tc (some x::caps σ js) Hh Q')
  (he:∀i x Hh (Q':VK),xs[i]?=some x→p i=true→Same H1 Hh→(∀Hh',Same Hh Hh'→Q' (f i) Hh')→te (some x::caps σ js) Hh Q')
  (hz:xs.length<sizeLine) (q:∀D H2,Same H1 H2→H1 D=none→H2 D=some (.lst (((List.range xs.length).filter p).map f))→Q (.ref D) H2):
  zeA (Itl K a) js tc te σ H1 Q:=by
 intro D H2 s2 hD h2
 refine ⟨fun i m acc H3=>m=xs.length-i∧i≤xs.length∧acc=((List.range i).filter p).map f∧Same H1 H3∧H3 D=some (.lst acc),⟨_,rfl,Nat.zero_le _,by simp,s2,h2⟩,?_⟩
 rintro i m acc H3 ⟨rfl,hi,ea,s3,h3⟩
 have hl3:SqL K H3 a xs:=s3.seq hl
 have hll:acc.length≤xs.length:=by
  rw [ea,List.length_map]
  refine Nat.le_trans (List.length_filter_le _ _) ?_
  rw [List.length_range]
  exact hi
 refine ⟨h3,by omega,?_⟩
 by_cases hlt:i<xs.length
 ·have hx:xs[i]?=some xs[i]:=List.getElem?_eq_getElem hlt
  refine .inr ⟨⟨xs,_,hl3,hx⟩,fun y H4 z=>?_⟩
  obtain ⟨e,ey⟩:=z
  have ey2:=ey xs hl3
  subst e
  refine ht i y _ _ ey2 s3 fun H5 s5=>?_
  have h5:=s5 _ _ h3
  have s35:=s3.trans s5
  have tk:(List.range (i+1)).filter p=(List.range i).filter p++(if p i=true then [i] else []):=by
   rw [List.range_succ,List.filter_append]
   congr 1
   cases h:p i<;>simp [h]
  cases hp:p i with
  | true=>
    refine iteT (he i y _ _ ey2 hp s35 fun H6 s6=>⟨s6 _ _ h5,fun H7 k7 h7=>⟨xs.length-(i+1),by omega,rfl,hlt,?_,fun b o e=>?_,h7⟩⟩)
    ·rw [tk,hp,if_pos rfl,List.map_append,←ea]
     rfl
    ·by_cases hb:b=D
     ·subst hb
      rw [hD] at e
      cases e
     ·exact k7 b o hb (s6 b o (s35 b o e))
  | false=>
    refine iteF ⟨xs.length-(i+1),by omega,rfl,hlt,?_,s35,h5⟩
    rw [tk,hp,if_neg Bool.false_ne_true,List.append_nil]
    exact ea
 ·have e:i=xs.length:=by omega
  subst e
  refine .inl ⟨⟨xs,hl3,Nat.le_refl _⟩,?_⟩
  rw [ea] at h3
  exact q D _ s3 hD h3
theorem zcG (n:Nat):(List.range n).filter (fun _=>true)=List.range n:=by
 rw [List.filter_eq_self]
 intro _ _
 rfl
def itm {α:Type} (xs:List α) (g : α→V) (i:Nat):V:=match xs[i]? with
 | some x=>g x
 | none=>.non
theorem zd3 {α:Type} (g : α→V):∀xs:List α,(List.range xs.length).map (itm xs g)=xs.map g
 | []=>rfl
 | x::xs=>by
   rw [List.length_cons,List.range_succ_eq_map,List.map_cons,List.map_map,List.map_cons,←zd3 g xs]
   congr 1
structure IsCs (K:PySem.W.Frag) (H:Hp) (l:Addr) (ps:List (Addr × Cl)):Prop where
 at_:H l=some (.lst (ps.map fun q=>V.ref q.1))
 cl:∀q,q∈ps→IsCl K H q.1 q.2
theorem IsCs.same {K:PySem.W.Frag} {H H':Hp} {l:Addr} {ps:List (Addr × Cl)} (s:Same H H') (h:IsCs K H l ps):IsCs K H' l ps:=⟨s _ _ h.at_,fun q hq=>(h.cl q hq).same s⟩
theorem But.free {a p:Addr} {H H2:Hp} {o:HO} (k:But a H H2) (h2:H2 a=some o) (n:H2 p=none):H p=none:=by
 cases e:H p with
 | none=>rfl
 | some u=>
   by_cases z:p=a
   ·rw [z,h2] at n
    cases n
   ·rw [k _ _ z e] at n
    cases n
theorem at_3 (x y z:V) {r:Int} (h0:0≤r) (h1:r<3):∃v,atI [x,y,z] r=some v∧(v=x∨v=y∨v=z):=by
 rcases (by omega:r=0∨r=1∨r=2) with rfl | rfl | rfl
 ·exact ⟨x,rfl,.inl rfl⟩
 ·exact ⟨y,rfl,.inr (.inl rfl)⟩
 ·exact ⟨z,rfl,.inr (.inr rfl)⟩
structure St3 (H:Hp) (a:Addr):Prop where
 ex:∃p q r:Int,H a=some (.lst [.int p,.int q,.int r])
theorem zll (c d:Cl):HT.lexLt [c.came,c.n] [d.came,d.n]=tie c d:=by
 rw [HT.lexLt_cons,HT.lexLt_cons,HT.lexLt_nil_nil]
 unfold tie
 by_cases k:c.came=d.came
 ·rw [if_pos k]
  by_cases k2:c.n=d.n
  ·rw [if_pos k2,eq_comm,decide_eq_false_iff_not]
   omega
  ·rw [if_neg k2,decide_eq_decide]
   omega
 ·rw [if_neg k,decide_eq_decide]
  omega
section
variable {X:Cx} {tg:Expr}
end
end L2
namespace L2
open PySem PySem.Spec PyProof.Rows
theorem ziw {X:Cx} {iter elt:Expr} {x y:Str} {i:Nat} {px py spos:Pos} {ifs:List Expr} {scope:Scope} {pos:Pos} {wi:TI} {N:List Str} {js:List Nat} {tc:TT} {te:TE}
  (hN:X.N.Nodup) (hiN:X.N[i]?=some y) (hyl:X.env.scope.names.lookup y=some .local)
  (hc:X.calm=true) (S:CompScope X scope x N js) (hi:PI X (.Name x px) iter wi)
  (ht:∀cl C s₀ H₀ ex,zfF (zaz X N scope cl C s₀ H₀ ex) ifs tc) (he:∀cl C s₀ H₀ ex,PE (zaz X N scope cl C s₀ H₀ ex) elt te)
  (hsw:swapsWith (.ListComp elt [⟨.Name x px,iter,ifs,0⟩] scope pos) (some (.Name y py)) spos.line X.env=pure true:=by rfl)
  (hs:∀x,foldedSetIterable iter X.env x=pure x:=by intro _;rfl):
  PS X (.Assign [.Name y py] (.ListComp elt [⟨.Name x px,iter,ifs,0⟩] scope pos) spos) (tAsg (zml wi js tc te) (zeQ i)):=by
 with_unfolding_all
  intro pins s σ H DD I h
  have hcells:∀y∈scope.names,y.2=.free→∃c,X.env.cells.lookup y.1=some c:=fun y hy hf=>I.ok.has y.1 (.inl (S.free y hy hf))
  obtain ⟨cl,ecl,cl1,cl2⟩:=zdb hcells
  rw [exec_Assign_Name_used _ _ _ _ hsw]
  refine wpAny_bind (wpAny_standAt (wpAny_bind ?_))
  show wpAny _ X.A (do let _ ←comprehension (.ListComp elt [⟨.Name x px,iter,ifs,0⟩] scope pos) scope X.env _ (newList []) false (eval iter X.env) (some (assign (.Name y py) X.env))) _ _ s
  refine wpAny_bind (wpAny_mono (wpAny_comprehension_free (use:=some (assign (.Name y py) X.env)) (Q:=fun _ s'=>SP X pins DD .next s') rfl hs ecl S.kind S.loc (thn (hi pins s σ H _ I h) fun v s1 h1=>thn h1 fun itv s2 h2=>?_)) (fun _ s' hq=>wpAny_pure (wpAny_pure hq)) fun _ _ e=>e)
  obtain ⟨it,fp,tn,J,H2,e,I2,T,st2,f2,q2⟩:=h2
  subst e
  refine wpAny_newObj_type (wpAny_newFunctionEnv S.nocell (by intro y hy;simp at hy) (fun h₁ hns₁ hsb₁=>?_) S.kind)
  dsimp only at hns₁ hsb₁ ⊢
  generalize hP2:s2.heap.push { cls:=.type "list",dict:=none,data:=.seq ([]:List Value).toArray }=P2 at hns₁ hsb₁ ⊢
  have hC:P2.objs.size=s2.heap.objs.size+1:=by rw [←hP2,Heap.size_push]
  have below:∀b,b<s2.heap.objs.size→b≠P2.objs.size∧b≠s2.heap.objs.size:=fun b hb=>⟨by rw [hC];exact Nat.ne_of_lt (Nat.lt_succ_of_lt hb),Nat.ne_of_lt hb⟩
  have hDC:s2.heap.objs.size≠P2.objs.size:=by rw [hC];exact Nat.ne_of_lt (Nat.lt_succ_self _)
  have old:∀b o,s2.heap.get? b=some o→h₁.get? b=some o:=fun b o e=>hsb₁.extBut b o (below b (Heap.lt_size e)).1 (Heap.get?_push_of_some _ (hP2▸Heap.get?_push_of_some _ e))
  have hD:h₁.get? s2.heap.objs.size=some { cls:=.type "list",dict:=none,data:=.seq ([]:List Value).toArray }:=hsb₁.extBut _ _ hDC (Heap.get?_push_of_some _ (hP2▸Heap.get?_push_size _ rfl))
  have hDn:H2 s2.heap.objs.size=none:=I2.hok.fresh (Nat.le_refl _)
  have hCn:H2 P2.objs.size=none:=I2.hok.fresh (by rw [hC];exact Nat.le_succ _)
  obtain ⟨W,⟨m0,w0⟩,turn⟩:=q2 s2.heap.objs.size _ (zby hDn (.lst [])) hDn zar
  have fpl:∀b∈fp,b<s2.heap.objs.size:=fun b hb=>by
   obtain ⟨o,e,_⟩:=T.obj 0 _ st2 b hb
   exact Heap.lt_size e
  have yok:(zaz X N scope cl P2.objs.size s2 H2 fp).Ok:=
   { mod:=I2.ok.mod
     kind:=S.kind
     glob:=I2.ok.glob
     blt:=I2.ok.blt
     above:=by show s2.heap.objs.size≤P2.objs.size;rw [hC];exact Nat.le_succ _
     inj:=fun y z c h1 h2=>I2.ok.inj y z c (cl1 y c h1) (cl1 z c h2)
     has:=fun y hy=>by
      have hy':(y,NameKind.free)∈scope.names:=by
       rcases hy with hy | hy
       ·exact zbx (env:=X.env) hy (.inl rfl) S.nocell
       ·exact zbx (env:=X.env) hy (.inr rfl) S.nocell
      exact cl2 y hy'
     cab:=fun y c hf _=>by cases hf
     hd:=fun hc'=>I2.ok.hd hc'
     frames:=I2.ok.frames
     stk:=.inl rfl
     exf:=fun b hb=>⟨(below b (fpl b hb)).1,fun y c e=>(f2 b hb).2.2.2.2.1 y c (cl1 y c e)⟩
     bs:=I2.bs
     bsz:=Nat.le_trans I2.ok.bsz I2.sz
     noex:=fun b o e hb=>by
      rcases (f2 b hb).2.2.2.1 with z | z
      ·exact I2.ok.noex b o e z
      ·exact absurd (Nat.lt_of_lt_of_le (Nat.lt_of_lt_of_le (Heap.lt_size e) I2.ok.bsz) z) (Nat.lt_irrefl _)
     exfs:=fun b hb hf=>by
      rcases List.mem_cons.mp (I2.stkSub b hf) with z | z
      ·exact (f2 b hb).2.1 z
      ·exact (f2 b hb).2.2.1 z
     funs:=I2.stack
     frf:=I2.stkFree }
  have hokD:HOk X.prog X.w (upd H2 s2.heap.objs.size (.lst [])) h₁:=I2.hok.laid old (Nat.le_refl _) ⟨Nat.zero_le _,[],0,.nil,hD⟩
  have I3:Inv (zaz X N scope cl P2.objs.size s2 H2 fp) [] (none::caps σ js) (upd H2 s2.heap.objs.size (.lst [])) { s2 with heap:=h₁,toks:=s2.toks+([]:List (Str × Value)).length }:=
   { ok:=yok
     os:=rfl
     bare:=I2.bare
     base:=Un.laid old (Nat.le_refl _) hDn
     loc:=by
      refine ⟨_,hns₁,fun i y v e1 e2 e3=>?_⟩
      cases i with
      | zero=>simp at e2
      | succ k=>
        have e2':(caps σ js)[k]?=some (some v):=by simpa using e2
        unfold caps at e2'
        rw [List.getElem?_map] at e2'
        cases ej:js[k]? with
        | none=>rw [ej] at e2';cases e2'
        | some j=>
          rw [ej] at e2'
          have e4:(σ[j]?).join=some v:=Option.some.inj e2'
          have e5 : σ[j]?=some (some v):=by
           cases eσ : σ[j]? with
           | none=>rw [eσ] at e4;cases e4
           | some o=>rw [eσ] at e4;exact congrArg some e4
          obtain ⟨n1,n2,n3,n4⟩:=S.cap k j y e1 ej
          obtain ⟨mX,_,lX⟩:=I2.loc
          obtain ⟨u,ru,lk⟩:=lX j y v n1 e5 n2
          refine ⟨u,ru,?_⟩
          rcases lk with ⟨lk,_⟩ | ⟨_,c,ec,cell⟩
          ·rw [n3] at lk;cases lk
          ·obtain ⟨c',ec'⟩:=cl2 y n4
           have:c'=c:=Option.some.inj ((cl1 y c' ec').symm.trans ec)
           subst this
           obtain ⟨o,ho,hd⟩:=cell
           refine .inr ⟨?_,c',ec',⟨o,old _ _ ho,hd⟩⟩
           have e3':(relabel scope X.env).names.lookup y=some .local∨(relabel scope X.env).names.lookup y=some .cell∨(relabel scope X.env).names.lookup y=some .free:=e3
           rcases e3' with z | z | z
           ·exfalso
            have hm:=PySem.mem_of_lookup z
            obtain ⟨⟨n,k'⟩,hn,e⟩:=List.mem_map.mp hm
            dsimp only at e
            by_cases cc:(k'==NameKind.free&&X.env.scope.kind==.function&&X.env.kindOf n==some .cell)=true
            ·rw [if_pos cc] at e
             cases e
            ·rw [if_neg cc] at e
             cases e
             have l1:=S.loc _ hn rfl
             have l2:=lookup_relabel_local (env:=X.env) l1
             have f1:=S.free _ n4 rfl
             exact S.apart y l1 n4
           ·exact .inl z
           ·exact .inr z
     cell:=fun y c e=>by
      obtain ⟨v,o,ho,hd⟩:=I2.cell y c (cl1 y c e)
      exact ⟨v,o,old _ _ ho,hd⟩
     free:=by show upd H2 s2.heap.objs.size (.lst []) P2.objs.size=none;rw [zap (Ne.symm hDC)];exact hCn
     freeC:=fun y c e=>by
      obtain ⟨v,o,ho,hd⟩:=I2.cell y c (cl1 y c e)
      rw [zap (below c (Heap.lt_size ho)).2]
      exact I2.freeC y c (cl1 y c e)
     pin:=fun p hp=>by simp at hp
     hok:=hokD
     len:=by show (none::caps σ js).length=N.length;rw [S.len];simp [caps] }
  have st3:tn 0 h₁:=T.keep 0 _ _ st2 fun b _ o e=>old b o e
  have fr3:∀b∈fp,(upd H2 s2.heap.objs.size (.lst [])) b=none:=fun b hb=>by
   rw [zap (below b (fpl b hb)).2]
   exact (f2 b hb).1
  have stat:∀ {H':Hp},(∀b∈fp,H' b=none)→∀b∈fp,FpOk (zaz X N scope cl P2.objs.size s2 H2 fp) [] H' b:=fun hn b hb=>
   ⟨hn b hb,(below b (fpl b hb)).1,yok.exfs b hb,.inl hb,fun y c e=>(f2 b hb).2.2.2.2.1 y c (cl1 y c e),fun p hp=>by simp at hp⟩
  have pgn:PG (zaz X N scope cl P2.objs.size s2 H2 fp) (.Name x px) (zeQ 0):=zaO S.nd S.head (.inl (lookup_relabel_local S.own)) (.inr (lookup_relabel_local S.own))
  have loop:∀s₃:Shared,s₃ = { s2 with heap:=h₁,toks:=s2.toks+([]:List (Str × Value)).length }→
    codeAny (model X.prog X.w) X.A (.compLoop (.ListComp elt [⟨.Name x px,iter,ifs,0⟩] scope pos) 0 (.ref it) (.ref s2.heap.objs.size) (compEnvC scope cl P2.objs.size X.env))
     (compPost (model X.prog X.w) X.A X.xe (some (assign (.Name y py) X.env)) (fun _ s'=>SP X pins DD .next s') (.ref s2.heap.objs.size) P2.objs.size) s₃:=by
   rintro s₃ rfl
   refine codeAny_loop rfl (fun n s'=>∃i o acc H',Inv (zaz X N scope cl P2.objs.size s2 H2 fp) [] (o::caps σ js) H' s'∧tn i s'.heap∧(∀b∈fp,H' b=none)∧W i n acc H') ?_ m0 ⟨0,none,[],_,I3,st3,fr3,w0⟩
   rintro n s4 ⟨i,o,acc,H4,I4,st4,fr4,w4⟩
   show wpAny _ X.A ((compTurn (.ListComp elt [⟨.Name x px,iter,ifs,0⟩] scope pos) 0 (.ref it) (.ref s2.heap.objs.size) (compEnvC scope cl P2.objs.size X.env)).onRaise (fun x=>do noteFrame x (compEnvC scope cl P2.objs.size X.env);theTreesLotGoes x)) _ _ s4
   refine wpAny_noted ?_
   rw [compTurn_list]
   refine wpAny_bind (wpAny_standAt (wpAny_bind ?_))
   obtain ⟨hD4,hz4,alt⟩:=turn i n acc H4 w4
   rcases alt with ⟨stop,qn⟩ | ⟨go,step⟩
   ·refine thn (T.done (zaz X N scope cl P2.objs.size s2 H2 fp) rfl rfl rfl hc i [] s4 _ H4 _ I4 (stat fr4) st4 stop) fun r s5 ⟨hr,I5⟩=>?_
    subst hr
    refine wpAny_pure ?_
    obtain ⟨m5,n5,_⟩:=I5.loc
    have u5:=I5.base
    have nC:∀b o,s2.heap.get? b=some o→b≠P2.objs.size:=fun b o e=>(below b (Heap.lt_size e)).1
    have IX:Inv X pins σ H4 s5:=by
     refine I2.call' (s':=s5) (ch:=fp) I5.os ?_ I5.hok I5.bare fun b hb=>⟨(f2 b hb).2.2.2.1,(f2 b hb).2.1,(f2 b hb).2.2.2.2.1,(f2 b hb).2.2.2.2.2⟩
     exact ⟨u5.keep,u5.slot,u5.free,u5.there,u5.tups,u5.frzs,u5.tbls⟩
    obtain ⟨g0,g1,g2,g3,g4,g5⟩:=I2.fpOk (b:=P2.objs.size) (H':=H4) (by rw [hC];exact Nat.le_succ _) I5.free
    refine wpAny_assign_Name (zdR IX hN hiN (.inl hyl) (v:=.ref s2.heap.objs.size) rfl (fun s6 I6 ⟨aa,sb6,ha⟩=>?_) (.inr hyl))
    have hCa:P2.objs.size≠aa:=by
     rcases ha with rfl | ha
     ·exact g1
     ·exact fun z=>g4 _ _ ha z.symm
    refine ⟨m5,n5.sameBut sb6 hCa,fun h' sb=>⟨_,H4,?_,qn⟩⟩
    exact I6.turned (t':=s6.toks) (fun b o hb e=>sb.extBut b o hb e) g0 g1 g3 g4 g5
   ·refine thn (T.item (zaz X N scope cl P2.objs.size s2 H2 fp) rfl rfl rfl hc i [] s4 _ H4 _ I4 (stat fr4) st4 go) fun r s5 ⟨u,hr,h5⟩=>?_
    subst hr
    refine wpAny_bind (thn h5 fun _ s6 ⟨y,H6,I6,r6,y6,st6,fr6⟩=>?_)
    have I6':=I6.pinned (stat fr6) (T.obj _ _ st6)
    refine wpAny_bind (wpAny_mono (pgn _ s6 (o::caps σ js) H6 y u (fun σ' H' => σ'=some y::caps σ js∧H'=H6) I6' r6 ⟨rfl,rfl⟩) (fun _ s7 ⟨σ7,H7,I7,e7,e8⟩=>?_) fun _ _ z=>z.elim)
    subst e7 e8
    have back:∀ {s9:Shared} {H9:Hp} {acc9:List V} {m9:Nat},Inv (zaz X N scope cl P2.objs.size s2 H2 fp) ([]++zdT fp s6.heap) (some y::caps σ js) H9 s9→m9<n→W (i+1) m9 acc9 H9→
      ∃m,m<n∧∃i o acc H',Inv (zaz X N scope cl P2.objs.size s2 H2 fp) [] (o::caps σ js) H' s9∧tn i s9.heap∧(∀b∈fp,H' b=none)∧W i m acc H':=fun {s9 H9 acc9 m9} I9 hm w9=>by
     refine ⟨m9,hm,i+1,some y,acc9,H9,I9.unpinned,T.keep _ _ _ st6 fun b hb o e=>(I9.pin (b,o) (List.mem_append_right _ (List.mem_append_right _ (zbw hb e)))).1,fun b hb=>?_,w9⟩
     obtain ⟨o,e,d⟩:=T.obj _ _ st6 b hb
     exact (I9.pin (b,o) (List.mem_append_right _ (List.mem_append_right _ (zbw hb e)))).2.1
    refine wpAny_bind (wpAny_mono (ht cl _ s2 H2 fp _ s7 _ _ _ I7 (step y _ y6)) (fun ok s8 ⟨H8,I8,q8⟩=>?_) fun _ _ z=>z.elim)
    cases ok with
    | false=>
      obtain ⟨m9,hm,w9⟩:=q8
      exact wpAny_pure ⟨rfl,back I8 hm w9⟩
    | true=>
      refine wpAny_bind (wpAny_bind (wpAny_mono (he cl _ s2 H2 fp _ s8 _ _ _ I8 q8) (fun xv s9 ⟨v9,H9,I9,r9,hD9,q9⟩=>?_) fun _ _ z=>z.elim))
      refine wpAny_bind (wpAny_mono (zcZ (X:=zaz X N scope cl P2.objs.size s2 H2 fp) _ s9 _ H9 (.ref s2.heap.objs.size) [v9] (.ref s2.heap.objs.size) [xv] (fun _ H'=>H'=upd H9 s2.heap.objs.size (.lst (acc++[v9]))) I9 rfl (.cons r9 .nil) ⟨_,acc,v9,rfl,rfl,hD9,hz4,rfl⟩) (fun _ s10 ⟨v10,H10,I10,_,e10⟩=>?_) fun _ _ z=>z.elim)
      subst e10
      obtain ⟨m9,hm,w9⟩:=q9 _ (fun b o hb e=>by rw [zap hb];exact e) zar
      exact wpAny_pure (wpAny_pure ⟨rfl,back I10 hm w9⟩)
  exact codeAny_compStart_list (loop _ rfl) (T.self _ 0 _ _ _ st3 (loop _ rfl))
end L2
namespace L2
open PySem PySem.Spec PyProof.Rows
theorem zmm:bootBuiltins "any" = some (.builtin "any"):=by decide +kernel
section
variable {X:Cx}
end
end L2
namespace L2
open PySem.W PyProof.Rows
structure Tot (n:Nat) (lt:Nat→Nat→Bool):Prop where
 asym:∀i j,i<n→j<n→lt i j=true→lt j i=false
 tot:∀i j,i<n→j<n→i≠j→lt i j=false→lt j i=true
 trans:∀i j k,i<n→j<n→k<n→lt i j=true→lt j k=true→lt i k=true
def Asks {α:Type} (n:Nat) (lt:Nat→Nat→Bool):KasT α→(α→Prop)→Prop
 | .ret a,Q=>Q a
 | .ask i j k,Q=>i<n∧j<n∧i≠j∧Asks n lt (k (lt i j)) Q
theorem Asks.bind {α β:Type} {n:Nat} {lt:Nat→Nat→Bool} {f : α→KasT β} {R : α→Prop} {Q : β→Prop} (hf:∀a,R a→Asks n lt (f a) Q):∀(t:KasT α),Asks n lt t R→Asks n lt (t.bind f) Q
 | .ret a,h=>hf a h
 | .ask i j k,⟨h1,h2,h3,h4⟩=>⟨h1,h2,h3,Asks.bind hf (k (lt i j)) h4⟩
theorem Asks.mono {α:Type} {n:Nat} {lt:Nat→Nat→Bool} {R Q : α→Prop} (hf:∀a,R a→Q a):∀(t:KasT α),Asks n lt t R→Asks n lt t Q
 | .ret a,h=>hf a h
 | .ask i j k,⟨h1,h2,h3,h4⟩=>⟨h1,h2,h3,Asks.mono hf (k (lt i j)) h4⟩
structure Pm (n:Nat) (p:Array Nat):Prop where
 pm:p.toList.Perm (List.range n)
theorem Pm.sz {n:Nat} {p:Array Nat} (h:Pm n p):p.size=n:=by
 have:=h.pm.length_eq
 simpa using this
theorem atq (p:Array Nat) (i:Nat):p.getD i 0=(p[i]?).getD 0:=by
 rw [Array.getD_eq_getD_getElem?]
theorem Pm.lt {n:Nat} {p:Array Nat} (h:Pm n p) {i:Nat} (hi:i<n):p.getD i 0<n:=by
 have hs:i<p.size:=by rw [h.sz];exact hi
 have m:p.getD i 0∈p.toList:=by
  rw [atq,Array.getElem?_eq_getElem hs]
  simp
 exact List.mem_range.mp (h.pm.mem_iff.mp m)
theorem Pm.inj {n:Nat} {p:Array Nat} (h:Pm n p) {i j:Nat} (hi:i<n) (hj:j<n) (e:p.getD i 0=p.getD j 0):i=j:=by
 have hs:i<p.size:=by rw [h.sz];exact hi
 have ht:j<p.size:=by rw [h.sz];exact hj
 have nd:p.toList.Nodup:=h.pm.nodup_iff.mpr List.nodup_range
 rw [atq,atq,Array.getElem?_eq_getElem hs,Array.getElem?_eq_getElem ht] at e
 have e':p.toList[i]'(by simpa using hs)=p.toList[j]'(by simpa using ht):=by simpa using e
 exact (List.getElem_inj nd).mp e'
def Sd (lt:Nat→Nat→Bool) (p:Array Nat) (k:Nat):Prop:=∀i j,i<j→j<k→lt (p.getD i 0) (p.getD j 0)=true
def Dd (lt:Nat→Nat→Bool) (p:Array Nat) (k:Nat):Prop:=∀i j,i<j→j<k→lt (p.getD j 0) (p.getD i 0)=true
section
variable {n:Nat} {lt:Nat→Nat→Bool} (T:Tot n lt)
include T
theorem zix {p:Array Nat} (P:Pm n p):∀f a,1≤a→a+f≤n→Sd lt p a→Asks n lt (kas_asc p f a) (fun m=>a≤m∧m≤a+f∧Sd lt p m∧(m<a+f→lt (p.getD m 0) (p.getD (m-1) 0)=true))
 | 0,a,h1,h2,s=>⟨Nat.le_refl _,Nat.le_refl _,s,fun z=>by omega⟩
 | f+1,a,h1,h2,s=>by
   refine ⟨P.lt (by omega),P.lt (by omega),fun e=>?_,?_⟩
   ·have:=P.inj (by omega) (by omega) e
    omega
   ·cases c:lt (p.getD a 0) (p.getD (a-1) 0) with
    | true=>exact ⟨Nat.le_refl _,by omega,s,fun _=>c⟩
    | false=>
      have c':=T.tot _ _ (P.lt (i:=a) (by omega)) (P.lt (i:=a-1) (by omega)) (fun e=>by have:=P.inj (by omega) (by omega) e;omega) c
      have s':Sd lt p (a+1):=fun i j ij ja=>by
       by_cases z:j<a
       ·exact s i j ij z
       ·have:j=a:=by omega
        subst this
        by_cases y:i=j-1
        ·rw [y];exact c'
        ·exact T.trans _ (p.getD (j-1) 0) _ (P.lt (by omega)) (P.lt (by omega)) (P.lt (by omega)) (s i (j-1) (by omega) (by omega)) c'
      have r:=zix P f (a+1) (by omega) (by omega) s'
      refine Asks.mono (fun m hm=>?_) _ r
      exact ⟨by omega,by omega,hm.2.2.1,fun z=>hm.2.2.2 (by omega)⟩
theorem ziy {p:Array Nat} (P:Pm n p):∀f a,1≤a→a+f≤n→Dd lt p a→Asks n lt (kas_desc f p a 0) (fun r=>r.1=p∧r.2.2=0∧a≤r.2.1∧r.2.1≤a+f∧Dd lt p r.2.1)
 | 0,a,h1,h2,s=>⟨rfl,rfl,Nat.le_refl _,Nat.le_refl _,s⟩
 | f+1,a,h1,h2,s=>by
   have ne:p.getD a 0≠p.getD (a-1) 0:=fun e=>by have:=P.inj (by omega) (by omega) e;omega
   refine ⟨P.lt (by omega),P.lt (by omega),ne,?_⟩
   cases c:lt (p.getD a 0) (p.getD (a-1) 0) with
   | true=>
     have s':Dd lt p (a+1):=fun i j ij ja=>by
      by_cases z:j<a
      ·exact s i j ij z
      ·have:j=a:=by omega
       subst this
       by_cases y:i=j-1
       ·rw [y];exact c
       ·exact T.trans _ (p.getD (j-1) 0) _ (P.lt (by omega)) (P.lt (by omega)) (P.lt (by omega)) c (s i (j-1) (by omega) (by omega))
     have r:=ziy P f (a+1) (by omega) (by omega) s'
     exact Asks.mono (fun m hm=>⟨hm.1,hm.2.1,by omega,by omega,hm.2.2.2.2⟩) _ r
   | false=>
     have c':=T.tot _ _ (P.lt (i:=a) (by omega)) (P.lt (i:=a-1) (by omega)) ne c
     refine ⟨P.lt (by omega),P.lt (by omega),fun e=>ne e.symm,?_⟩
     rw [c']
     exact ⟨rfl,rfl,Nat.le_refl _,show a≤a+(f+1) by omega,s⟩
omit T in
theorem zkA {p:Array Nat} {k:Nat} (hk:k≤p.size) (i:Nat):(kas_rev p 0 k).getD i 0=if i<k then p.getD (k-1-i) 0 else p.getD i 0:=by
 rw [atq]
 unfold kas_rev
 rw [getElem?_mirror_all hk]
 by_cases z:i<k
 ·rw [if_pos ⟨Nat.zero_le _,z⟩,if_pos z,atq,Nat.zero_add]
 ·rw [if_neg (fun y=>z y.2),if_neg z,atq]
omit T in
theorem Pm.rev {p:Array Nat} (P:Pm n p) (i k:Nat):Pm n (kas_rev p i k):=⟨(Array.perm_iff_toList_perm.mp (mirror_perm p i k _)).trans P.pm⟩
omit T in
theorem Pm.bub {p:Array Nat} (P:Pm n p) (i k:Nat):Pm n (bubble p i k):=⟨(Array.perm_iff_toList_perm.mp (bubble_perm p i k)).trans P.pm⟩
theorem zjH {p:Array Nat} (P:Pm n p) {k:Nat} (k1:1≤k) (kn:k≤n) (d:Dd lt p k):Asks n lt (kas_tail3 k n p) (fun r=>1≤r.1∧r.1≤n∧Pm n r.2∧Sd lt r.2 r.1):=by
 have P':=P.rev 0 k
 have s:Sd lt (kas_rev p 0 k) k:=fun i j ij jk=>by
  rw [zkA (by rw [P.sz];exact kn),zkA (by rw [P.sz];exact kn),if_pos (by omega),if_pos jk]
  exact d _ _ (by omega) (by omega)
 unfold kas_tail3
 refine Asks.bind (fun m hm=>?_) _ (zix T P' (n-k) k k1 (by omega) s)
 exact (show 1≤m∧m≤n∧Pm n (kas_rev p 0 k)∧Sd lt (kas_rev p 0 k) m from ⟨by omega,by omega,P',hm.2.2.1⟩)
theorem zgk {p:Array Nat} (P:Pm n p) (n2:2≤n) (c:lt (p.getD 1 0) (p.getD 0 0)=true):Asks n lt (kas_descPart 1 n p) (fun r=>1≤r.1∧r.1≤n∧Pm n r.2∧Sd lt r.2 r.1):=by
 refine Asks.bind (fun r hr=>?_) _ (ziy T P (n-2) 2 (by omega) (by omega) (fun i j ij j2=>?_))
 ·obtain ⟨e1,e2,h1,h2,d⟩:=hr
  rw [if_neg (by omega),e1]
  exact zjH T P (by omega) (by omega) d
 ·have:i=0:=by omega
  have:j=1:=by omega
  subst i j
  exact c
theorem zjI {p:Array Nat} (P:Pm n p) (n2:2≤n):Asks n lt (kas_count n p) (fun r=>1≤r.1∧r.1≤n∧Pm n r.2∧Sd lt r.2 r.1):=by
 refine Asks.bind (fun m hm=>?_) _ (zix T P (n-1) 1 (Nat.le_refl _) (by omega) (fun i j ij j1=>by omega))
 obtain ⟨h1,h2,s,c⟩:=hm
 by_cases z:m=n
 ·rw [if_pos (by simp [z])]
  exact ⟨h1,by omega,P,s⟩
 ·rw [if_neg (by simp [z])]
  have c:=c (by omega)
  by_cases y:m > 1
  ·rw [if_pos y]
   refine ⟨P.lt (by omega),P.lt (by omega),fun e=>?_,?_⟩
   ·have:=P.inj (by omega) (by omega) e
    omega
   ·rw [s 0 (m-1) (by omega) (by omega)]
    exact ⟨h1,by omega,P,s⟩
  ·rw [if_neg y]
   have:m=1:=by omega
   subst this
   exact zgk T P n2 c
theorem zeV {p:Array Nat} (P:Pm n p) {k:Nat} (kn:k<n) (s:Sd lt p k):∀f l r,l≤r→r≤k→r-l≤f→(∀i,i<l→lt (p.getD i 0) (p.getD k 0)=true)→(∀i,r≤i→i<k→lt (p.getD k 0) (p.getD i 0)=true)→
  Asks n lt (kas_place p k f l r) (fun m=>m≤k∧(∀i,i<m→lt (p.getD i 0) (p.getD k 0)=true)∧(∀i,m≤i→i<k→lt (p.getD k 0) (p.getD i 0)=true))
 | 0,l,r,lr,rk,f0,a,b=>by
   have:l=r:=by omega
   subst this
   exact ⟨rk,a,b⟩
 | f+1,l,r,lr,rk,f0,a,b=>by
   unfold kas_place
   by_cases z:l ≥ r
   ·rw [if_pos z]
    have:l=r:=by omega
    subst this
    exact ⟨rk,a,b⟩
   ·rw [if_neg z]
    have m1:(l+r) / 2<r:=by omega
    have m2:l≤(l+r) / 2:=by omega
    generalize (l+r) / 2=m at m1 m2
    have ne:p.getD k 0≠p.getD m 0:=fun e=>by have:=P.inj kn (by omega) e;omega
    refine ⟨P.lt kn,P.lt (by omega),ne,?_⟩
    cases c:lt (p.getD k 0) (p.getD m 0) with
    | true=>
      refine zeV P kn s f l m m2 (by omega) (by omega) a fun i mi ik=>?_
      by_cases y:i=m
      ·rw [y];exact c
      ·exact T.trans _ (p.getD m 0) _ (P.lt kn) (P.lt (by omega)) (P.lt (by omega)) c (s m i (by omega) ik)
    | false=>
      have c':=T.tot _ _ (P.lt kn) (P.lt (i:=m) (by omega)) ne c
      refine zeV P kn s f (m+1) r (by omega) rk (by omega) (fun i im=>?_) b
      by_cases y:i=m
      ·rw [y];exact c'
      ·exact T.trans _ (p.getD m 0) _ (P.lt (by omega)) (P.lt (by omega)) (P.lt kn) (s i m (by omega) (by omega)) c'
theorem zkB:∀f (p:Array Nat) (k:Nat),Pm n p→k+f=n→Sd lt p k→Asks n lt (kas_bin f p k) (fun p'=>Pm n p'∧Sd lt p' n)
 | 0,p,k,P,e,s=>⟨P,by rw [←e];exact s⟩
 | f+1,p,k,P,e,s=>by
   refine Asks.bind (fun l hl=>?_) _ (zeV T P (by omega) s k 0 k (by omega) (Nat.le_refl _) (by omega) (fun i z=>by omega) (fun i z y=>by omega))
   obtain ⟨lk,h1,h2⟩:=hl
   refine zkB f _ (k+1) (P.bub k (k-l)) (by omega) ?_
   have b:∀i,(bubble p k (k-l)).getD i 0=if i=l then p.getD k 0 else if l<i∧i≤k then p.getD (i-1) 0 else p.getD i 0:=fun i=>by
    rw [atq,getElem?_bubble (by rw [P.sz];omega) _ (by omega),show k-(k-l)=l by omega]
    by_cases z:i=l
    ·rw [if_pos z,if_pos z,atq]
    ·rw [if_neg z,if_neg z]
     by_cases y:l<i∧i≤k
     ·rw [if_pos y,if_pos y,atq]
     ·rw [if_neg y,if_neg y,atq]
   intro i j ij jk
   rw [b i,b j]
   by_cases z:i=l
   ·rw [if_pos z,if_neg (by omega),if_pos ⟨by omega,by omega⟩]
    exact h2 _ (by omega) (by omega)
   ·rw [if_neg z]
    by_cases y:j=l
    ·rw [if_pos y,if_neg (by omega)]
     exact h1 _ (by omega)
    ·rw [if_neg y]
     by_cases x:l<i∧i≤k
     ·rw [if_pos x,if_pos ⟨by omega,by omega⟩]
      exact s _ _ (by omega) (by omega)
     ·rw [if_neg x]
      by_cases v:l<j∧j≤k
      ·rw [if_pos v]
       exact s _ _ (by omega) (by omega)
      ·rw [if_neg v]
       exact s _ _ ij (by omega)
theorem zlm (n2:2≤n):Asks n lt (kas_sort n) (fun p=>Pm n p∧Sd lt p n):=by
 refine Asks.bind (fun r hr=>?_) _ (zjI T ⟨by simp⟩ n2)
 obtain ⟨h1,h2,P,s⟩:=hr
 by_cases z:r.1<n
 ·rw [if_pos z,Nat.max_eq_left h1]
  exact zkB T _ _ _ P (by omega) s
 ·rw [if_neg z]
  have:r.1=n:=by omega
  rw [this] at s
  exact ⟨P,s⟩
end
end L2
namespace L2
open PySem PySem.Spec PyProof.Rows
structure Site (K:PySem.W.Frag) (mg:Str→Option Value) (base:Heap) (cv:Value) (T:Addr):Prop where
 ex:∃c,cv=.ref c∧PySem.W.CodeHd base c T
 bm:base.BuiltinsAt mg T
structure Lam (X:Cx) (H:Hp) (q:Str) (ar:Arguments) (body:Expr) (scope:Scope) (f:Addr) (cl:List (Str × Addr)):Prop where
 ex:∃pm c ct oc us t o,H f=some (.frz o (.own f))∧o.data=.func (PySem.W.kla_fn "<lambda>" q ar body scope cl pm (.ref c) ct)∧H c=some (.frz oc (.own c))∧oc.data=.fields us∧us[1]?=some (.str q t)
 c1:∀x c,cl.lookup x=some c→X.env.cells.lookup x=some c
 c2:∀x,(x,NameKind.free)∈scope.names→∃c,cl.lookup x=some c
 c3:∀x c,cl.lookup x=some c→(x,NameKind.free)∈scope.names
theorem Lam.same {X:Cx} {H H':Hp} {q:Str} {ar:Arguments} {body:Expr} {scope:Scope} {f:Addr} {cl:List (Str × Addr)} (s:Same H H') (h:Lam X H q ar body scope f cl):Lam X H' q ar body scope f cl:=by
 obtain ⟨pm,c,ct,oc,us,t,o,e1,e2,e3,e4⟩:=h.ex
 exact ⟨⟨pm,c,ct,oc,us,t,o,s _ _ e1,e2,s _ _ e3,e4⟩,h.c1,h.c2,h.c3⟩
section
variable {X:Cx} {pins:List (Addr × Obj)} {σ:St} {H:Hp} {s:Shared}
theorem zg2 {ar:Arguments} {body:Expr} {scope:Scope} {lp:Pos} {q:Str} {x:Str} {N:List Str} {js:List Nat} {T:Addr} {Q:Value→Shared→Prop}
  (I:Inv X pins σ H s) (S:CompScope X scope x N js) (D:Site X.K X.mg X.base X.env.code T) (hT:H T=some (.tbl lp q)) (hq:X.env.qual ++ "<lambda>" = q) (hd:defaultsOf ar X.env=([],[]))
  (h:∀f cl s' H',Inv X pins σ H' s'→Same H H'→Lam X H' q ar body scope f cl→Q (.ref f) s'):wpAny (model X.prog X.w) X.A (eval (.Lambda ar body scope lp) X.env) Q X.xe s:=by
 have hcells:∀y∈scope.names,y.2=.free→∃c,X.env.cells.lookup y.1=some c:=fun y hy hf=>I.ok.has y.1 (.inl (S.free y hy hf))
 obtain ⟨cl,ecl,cl1,cl2,cl3⟩:=zgi hcells
 obtain ⟨c,hc,C⟩:=D.ex
 have B:=D.bm.keeps I.bk
 have C':=C.keeps I.bk
 obtain ⟨vs,eT,tr,alt⟩:=I.hok T _ hT
 have hg:s.heap.Ns mainGlobals X.mg:=I.mod.glob.keeps I.bk
 refine PySem.W.kla_eval hd ?_
 rw [hq]
 have old:∀b o,s.heap.get? b=some o→b<s.heap.objs.size:=fun b o e=>Heap.lt_size e
 have trk:∀b u,H b=some u→b<s.heap.objs.size:=fun b u e=>I.hok.lt e
 rcases alt with alt | ⟨c',oc,us,t,e1,e2,e3,e4⟩
 ·have hgT:mainGlobals≠T:=fun z=>by
   obtain ⟨o,es,ep,e,d,_⟩:=id hg
   rw [z,eT] at e
   cases e
   cases d
  refine PySem.W.kla_makeFunction (mg:=X.mg) ecl I.ok.glob hg hc C' eT tr alt hgT B fun c' ctv h' tk hx hge hlt hrec htb=>?_
  obtain ⟨c2,oc,us,t,ec,hoc,hd1,hd2⟩:=hrec
  cases ec
  generalize hfo:PySem.W.kla_obj "<lambda>" q ar body scope cl ((X.mg "__name__").getD .none) c' ctv=fo
  have fd:fo.data=.func (PySem.W.kla_fn "<lambda>" q ar body scope cl ((X.mg "__name__").getD .none) (.ref c') ctv):=by rw [←hfo]
  have ff:fo.isFreed=false:=by rw [←hfo];rfl
  have nT:∀b,H b=none→b≠T:=fun b n z=>by rw [z,hT] at n;cases n
  have hf:h'.objs.size≠c':=Nat.ne_of_gt hlt
  have nf:∀b,b<s.heap.objs.size→b≠h'.objs.size:=fun b hb=>Nat.ne_of_lt (Nat.lt_trans (Nat.lt_of_lt_of_le hb hge) hlt)
  have nc:∀b,b<s.heap.objs.size→b≠c':=fun b hb=>Nat.ne_of_lt (Nat.lt_of_lt_of_le hb hge)
  have kp:∀b o,b≠T→s.heap.get? b=some o→(h'.push fo).get? b=some o:=fun b o n e=>Heap.get?_push_of_some _ (hx b o n e)
  have sm:Same H (upd (upd H c' (.frz oc (.own c'))) h'.objs.size (.frz fo (.own h'.objs.size))):=fun b u e=>by
   rw [zap (nf b (trk b u e)),zap (nc b (trk b u e))]
   exact e
  have hcF:(upd (upd H c' (.frz oc (.own c'))) h'.objs.size (.frz fo (.own h'.objs.size))) c'=some (.frz oc (.own c')):=by
   rw [zap (Ne.symm hf),zar]
  refine h h'.objs.size cl _ _ (I.step (g':=s.gens) (d':=s.drawn) (ch:=[]) (h':=h'.push fo) (t':=tk) (H':=upd (upd H c' (.frz oc (.own c'))) h'.objs.size (.frz fo (.own h'.objs.size))) (fun _ z=>nomatch z) (fun b o _ _ _ e n=>kp b o (nT b n) e) (fun b o _ _ _ e n=>⟨o.slots,kp b o (nT b n) e⟩)
   (fun b o _ e n=>?_) (fun b o _ e=>?_) (fun b xs e=>sm b _ e) (fun b o u e=>sm b _ e) (fun b p r e=>sm b _ e) (fun m hm=>?_) (fun b u e=>?_) I.bare) sm ⟨⟨_,c',ctv,oc,us,t,fo,zar,fd,hcF,hd1,hd2⟩,cl1,cl2,cl3⟩
  ·rw [zap (nf b (old b o e)),zap (nc b (old b o e))]
   exact n
  ·by_cases z:b=T
   ·exact ⟨_,by rw [z];exact Heap.get?_push_of_some _ htb⟩
   ·exact ⟨o,kp b o z e⟩
  ·exact (hm.extBut hx (nT _ I.free)).push _
  ·by_cases z:b=h'.objs.size
   ·subst z
    rw [zar] at e
    cases e
    exact ⟨Heap.get?_push_size _ ff,_,Heap.get?_push_size _ ff⟩
   ·rw [zap z] at e
    by_cases y:b=c'
    ·subst y
     rw [zar] at e
     cases e
     exact ⟨Heap.get?_push_of_some _ hoc,_,Heap.get?_push_of_some _ hoc⟩
    ·rw [zap y] at e
     by_cases w:b=T
     ·subst w
      rw [hT] at e
      cases e
      refine ⟨_,Heap.get?_push_of_some _ htb,?_,.inr ⟨c',oc,us,t,?_,hcF,hd1,hd2⟩⟩
      ·rw [Array.toList_append]
       exact TriplesOk_snoc _ _ _ _ tr
      ·rw [Array.toList_append]
       exact codeAmong_snoc _ tr alt
     ·refine (I.hok b u e).stay (fun d v hd q=>kp d v ?_ q) (fun d q=>sm d _ q) (fun d xs q=>sm d _ q) fun d ob xs q=>sm d _ q
      rintro rfl
      rcases hd with z | z
      ·exact w z.symm
      ·rw [hT] at z;cases z
 ·refine PySem.W.kla_makeFunctionHit (mg:=X.mg) ecl I.ok.glob hg hc C' eT tr e1 B fun ctv h' tk hk hsz=>?_
  generalize hfo:({ cls:=.type "function",data:=.func (PySem.W.kla_fn "<lambda>" q ar body scope cl ((X.mg "__name__").getD .none) (.ref c') ctv) }:Obj)=fo
  have fd:fo.data=.func (PySem.W.kla_fn "<lambda>" q ar body scope cl ((X.mg "__name__").getD .none) (.ref c') ctv):=by rw [←hfo]
  have hn:H h'.objs.size=none:=I.hok.fresh hsz
  have ff:fo.isFreed=false:=by rw [←hfo];rfl
  refine h h'.objs.size cl _ _ (I.laid (a:=h'.objs.size) (o:=.frz fo (.own h'.objs.size)) (h':=h'.push fo) (t':=tk) (fun b u e=>Heap.get?_push_of_some _ (hk b u e)) hsz ⟨Heap.get?_push_size _ ff,_,Heap.get?_push_size _ ff⟩) (zby hn _) ⟨⟨_,c',ctv,oc,us,t,fo,zar,fd,?_,e3,e4⟩,cl1,cl2,cl3⟩
  rw [zap (zbi e2 hn)]
  exact e2
abbrev zjJ (X:Cx) (N:List Str) (scope:Scope) (cl:List (Str × Addr)) (q:Str) (f:Addr) (cd:Value) (A:Around) (s₀:Shared) (H₀:Hp):Cx where
 prog:=X.prog
 w:=X.w
 K:=X.K
 mg:=X.mg
 base:=X.base
 A:=A.deeper (newEnv scope s₀.heap.objs.size mainGlobals cl (q ++ ".<locals>.") (some f) cd none builtinsNs)
 N:=N
 s₀:=s₀
 H₀:=H₀
 env:=newEnv scope s₀.heap.objs.size mainGlobals cl (q ++ ".<locals>.") (some f) cd none builtinsNs
 outer:=X.stack
 stack:=newEnv scope s₀.heap.objs.size mainGlobals cl (q ++ ".<locals>.") (some f) cd none builtinsNs::X.stack
 ex:=[]
 fn:=fun _=>false
 calm:=true
 pn:=[]
 xe:=fun _ _=>False
theorem zln {ar:Arguments} {body:Expr} {scope:Scope} {q:Str} {x:Str} {N:List Str} {js:List Nat} {f:Addr} {cl:List (Str × Addr)} {te:TE} {A:Around} {v:V} {u:Value} {Q:VK}
  (I:Inv X pins σ H s) (S:CompScope X scope x N js) (L:Lam X H q ar body scope f cl) (hA:A.frames=some X.stack) (hh:A.handled=none) (hdp:A.depth<recursionLimit) (co:scope.isCoroutine=false) (ge:scope.isGenerator=false)
  (hb:∀pm c ct u,bindArgs (PySem.W.kla_fn "<lambda>" q ar body scope cl pm c ct) ⟨[u],[]⟩=pure [(x,u)])
  (he:∀cd,PE (zjJ X N scope cl q f cd A s H) body te) (rv:RelV v u) (hq:te (some v::caps σ js) H Q):wpAny (model X.prog X.w) A (call (.ref f) [u]) (EP X pins σ Q) (fun _ _=>False) s:=by
 with_unfolding_all
  obtain ⟨pm,c,ct,oc,us,t,o,e1,e2,e3,e4,e5⟩:=L.ex
  obtain ⟨g1,_⟩:=I.hok f _ e1
  obtain ⟨g2,_⟩:=I.hok c _ e3
  have lim:s.heap.NoLimit:=I.nolimit
  refine wpAny_call (codeAny_mono (R:=fun r s'=>∃k,r=.ok (.ret k)∧CE X.stack X.prog X.w H s Q k s') ?_ fun r s' hr=>?_)
  ·refine PySem.W.kla_callFunE hdp g1 e2 co ge rfl ⟨c,oc,us,t,rfl,g2,e4,e5⟩ ?_
   rw [hb]
   refine wpAny_pure (wpAny_newFunctionEnv S.nocell (fun y hy=>?_) (fun h₁ hns hsb=>?_) S.kind)
   ·have hy':y=(x,u):=by simpa using hy
    subst hy'
    exact S.own
   have old:∀b o,s.heap.get? b=some o→h₁.get? b=some o:=fun b o e=>hsb.extBut b o (Nat.ne_of_lt (Heap.lt_size e)) (Heap.get?_push_of_some _ e)
   refine ⟨lim.keeps old,?_⟩
   have yok:(zjJ X N scope cl q f (.ref c) A s H).Ok:=
    { mod:=I.ok.mod
      kind:=S.kind
      glob:=rfl
      blt:=rfl
      above:=Nat.le_refl _
      inj:=fun y z c h1 h2=>I.ok.inj y z c (L.c1 y c h1) (L.c1 z c h2)
      has:=fun y hy=>by
       rcases hy with hy | hy
       ·exact absurd rfl (S.nocell _ (PySem.mem_of_lookup hy))
       ·exact L.c2 y (PySem.mem_of_lookup hy)
      cab:=fun y c hf _=>by cases hf
      hd:=fun _=>hh
      frames:=Around.frames_deeper hA
      stk:=.inr ⟨rfl,rfl⟩
      exf:=fun b hb=>by simp at hb
      bs:=I.bs
      bsz:=Nat.le_trans I.ok.bsz I.sz
      noex:=fun b o e hb=>by simp at hb
      exfs:=fun b hb=>by simp at hb
      funs:=I.stack
      frf:=I.stkFree }
   have I1:Inv (zjJ X N scope cl q f (.ref c) A s H) [] (some v::caps σ js) H { s with heap:=h₁,toks:=s.toks+[(x,u)].length }:=
    { ok:=yok
      os:=rfl
      bare:=I.bare
      base:=Un.kept old
      loc:=by
       refine ⟨_,hns,fun i y v' h1 h2 h3=>?_⟩
       cases i with
       | zero=>
         have ey:y=x:=Option.some.inj (h1.symm.trans S.head)
         subst ey
         have ev:v'=v:=by simpa using h2.symm
         subst ev
         exact ⟨u,rv,.inl ⟨S.own,by simp⟩⟩
       | succ k=>
         have h2':(caps σ js)[k]?=some (some v'):=by simpa using h2
         unfold caps at h2'
         rw [List.getElem?_map] at h2'
         cases ej:js[k]? with
         | none=>rw [ej] at h2';cases h2'
         | some j=>
           rw [ej] at h2'
           have e6:(σ[j]?).join=some v':=Option.some.inj h2'
           have e7 : σ[j]?=some (some v'):=by
            cases eσ : σ[j]? with
            | none=>rw [eσ] at e6;cases e6
            | some o=>rw [eσ] at e6;exact congrArg some e6
           obtain ⟨n1,n2,n3,n4⟩:=S.cap k j y h1 ej
           obtain ⟨mX,_,lX⟩:=I.loc
           obtain ⟨u',ru,lk⟩:=lX j y v' n1 e7 n2
           refine ⟨u',ru,?_⟩
           rcases lk with ⟨lk,_⟩ | ⟨_,d,ed,cell⟩
           ·rw [n3] at lk;cases lk
           ·obtain ⟨d',ed'⟩:=L.c2 y n4
            have:d'=d:=Option.some.inj ((L.c1 y d' ed').symm.trans ed)
            subst this
            obtain ⟨ob,ho,hd⟩:=cell
            refine .inr ⟨?_,d',ed',⟨ob,old _ _ ho,hd⟩⟩
            have h3':scope.names.lookup y=some .local∨scope.names.lookup y=some .cell∨scope.names.lookup y=some .free:=h3
            rcases h3' with z | z | z
            ·exact absurd n4 (S.apart y z)
            ·exact .inl z
            ·exact .inr z
      cell:=fun y d e=>by
       obtain ⟨v',ob,ho,hd⟩:=I.cell y d (L.c1 y d e)
       exact ⟨v',ob,old _ _ ho,hd⟩
      free:=I.hok.fresh (Nat.le_refl _)
      freeC:=fun y d e=>I.freeC y d (L.c1 y d e)
      pin:=fun p hp=>by simp at hp
      hok:=I.hok.kept old
      len:=by show (some v::caps σ js).length=N.length;rw [S.len];simp [caps] }
   refine PySem.W.kla_codeExpr (wpAny_mono (he (.ref c) [] _ _ H Q I1 hq) (fun k s' hk=>?_) fun _ _ z=>z.elim)
   obtain ⟨w,H',J,rk,qk⟩:=hk
   exact ⟨k,rfl,w,H',J.os,J.bare,J.base,J.hok,rk,qk⟩
  ·obtain ⟨k,rfl,ce⟩:=hr
   exact I.after ce
end
end L2
namespace L2
open PySem PySem.Spec PyProof.Rows PySem.W
theorem ziz:bootBuiltins "sorted" = some (.builtin "sorted"):=by decide +kernel
theorem Asks.wp {α:Type} {n:Nat} {lt:Nat→Nat→Bool} {cmp:Nat→Nat→(Bool→Shared→Prop)→Shared→Prop} {R : α→Prop} {Q : α→Shared→Prop} {s:Shared}
  (hc:∀i j C,i<n→j<n→C (lt i j) s→cmp i j C s) (hq:∀a,R a→Q a s):∀(t:KasT α),Asks n lt t R→t.kasWp cmp Q s
 | .ret a,h=>hq a h
 | .ask i j k,⟨h1,h2,_,h4⟩=>hc i j _ h1 h2 (Asks.wp hc hq (k (lt i j)) h4)
section
variable {prog:Program} {w:World} {A:Around} {E:Value→Shared→Prop} {s:Shared} {Q:Bool→Shared→Prop}
theorem zg3:∀(ns ms:List Int) (xs ys:List Value) (i:Nat),ns.length=ms.length→Vals (ns.map V.int) xs→Vals (ms.map V.int) ys→Q (HT.lexLt ns ms) s→KatLex prog w A true false Q (xs.zip ys) i s
 | [],[],xs,ys,i,_,rx,ry,h=>by
   cases rx
   cases ry
   exact kat_nil h
 | [],_::_,_,_,_,hl,_,_,_=>by simp at hl
 | _::_,[],_,_,_,hl,_,_,_=>by simp at hl
 | a::ns,b::ms,xs,ys,i,hl,rx,ry,h=>by
   cases rx with
   | cons ra rx=>
     cases ry with
     | cons rb ry=>
       obtain ⟨t,rfl⟩:=ra
       obtain ⟨t',rfl⟩:=rb
       rw [HT.lexLt_cons] at h
       refine kat_cons (wpAny_eqBool_int (kat_go (fun e=>?_) fun e=>?_))
       ·have ab:a=b:=by simpa using e
        rw [if_pos ab] at h
        exact kat_yes (zg3 ns ms _ _ (i+1) (by simpa using hl) rx ry h)
       ·have ab:a≠b:=by simpa using e
        rw [if_neg ab] at h
        refine kat_no ?_
        cases i with
        | zero=>exact oneLt_int h
        | succ i=>
          have e0:(true&&(i+1)==0)=false:=by simp
          rw [e0]
          exact kat_one _ _ (lt_int h)
end
def ziA (H:Hp) (kf:Nat→List Int) (ks:List Value):Prop:=∀j,j<ks.length→∃p,ks[j]?=some (.ref p)∧H p=some (.tup ((kf j).map V.int))
section
variable {X:Cx} {pins:List (Addr × Obj)} {σ:St} {H:Hp} {s:Shared}
theorem zeC (I:Inv X pins σ H s) {kf:Nat→List Int} (k1:∀i,0<(kf i).length):∀ {ks:List Value} {m:Nat},(∀j,j<ks.length→∃p,ks[j]?=some (.ref p)∧H p=some (.tup ((kf (m+j)).map V.int)))→
  ∃fs:List Value,fs.length=ks.length∧KatTups s.heap ks fs∧∀v∈fs,∃i t,v=.int i t
 | [],m,_=>⟨[],rfl,KatTups.nil,fun v hv=>by simp at hv⟩
 | v::ks,m,h=>by
   obtain ⟨p,h1,h2⟩:=h 0 (by simp)
   have ev:v=.ref p:=by simpa using h1
   subst ev
   obtain ⟨fs,l1,l2,l3⟩:=zeC I k1 (ks:=ks) (m:=m+1) fun j hj=>by
    obtain ⟨p,h1,h2⟩:=h (j+1) (by simpa using hj)
    refine ⟨p,by simpa using h1,?_⟩
    rw [Nat.add_assoc,Nat.add_comm 1 j]
    exact h2
   obtain ⟨_,its,r,o,e,c1,c2⟩:=I.hok p _ h2
   rw [Nat.add_zero] at r
   cases ek:kf m with
   | nil=>
     have:=k1 m
     rw [ek] at this
     simp at this
   | cons a as=>
     rw [ek] at r
     cases r with
     | cons ra rest=>
       obtain ⟨t,rfl⟩:=ra
       obtain ⟨n,c2⟩:=c2
       refine ⟨.int a t::fs,by simp [l1],KatTups.cons e c1 c2 (by simp) l2,fun v hv=>?_⟩
       rcases List.mem_cons.mp hv with z | z
       ·exact ⟨a,t,z⟩
       ·exact l3 v z
theorem ziB (I:Inv X pins σ H s) {A:Around} {E:Value→Shared→Prop} {kf:Nat→List Int} (k1:∀i,0<(kf i).length) {ks:List Value} (h:ziA H kf ks) (h2:2≤ks.length) {Q:SortKind→Shared→Prop} (q:Q (tuples' true) s):
  wpAny (model X.prog X.w) A (keyKind' ks.toArray) Q E s:=by
 obtain ⟨fs,l1,l2,l3⟩:=zeC I k1 (ks:=ks) (m:=0) (fun j hj=>by rw [Nat.zero_add];exact h j hj)
 refine kat_kind (T:=.type "int") l2 (by omega) (fun v hv=>?_) (by decide) q
 obtain ⟨i,t,rfl⟩:=l3 v hv
 exact Looks.of_pure rfl
theorem zjK (I:Inv X pins σ H s) {A:Around} {kf:Nat→List Int} {m:Nat} (k1:∀i,(kf i).length=m) {ks:List Value} (h:ziA H kf ks) {i j:Nat} (hi:i<ks.length) (hj:j<ks.length) {C:Bool→Shared→Prop} (q:C (HT.lexLt (kf i) (kf j)) s):
  kas_ask X.prog X.w A (tuples' true) ks i j C s:=by
 obtain ⟨p,e1,e2⟩:=h i hi
 obtain ⟨p',e1',e2'⟩:=h j hj
 obtain ⟨_,its,r,o,g,c1,n,c2⟩:=I.hok p _ e2
 obtain ⟨_,its',r',o',g',c1',n',c2'⟩:=I.hok p' _ e2'
 unfold kas_ask
 rw [List.getD_eq_getElem?_getD,List.getD_eq_getElem?_getD,e1,e1']
 have l1:=r.length
 have l2:=r'.length
 rw [List.length_map,k1] at l1 l2
 refine kat_lt g c2 g' c2' ?_
 have z:decide (its.toArray.size<its'.toArray.size)=false:=by
  rw [decide_eq_false_iff_not,List.size_toArray,List.size_toArray]
  omega
 rw [z]
 exact zg3 _ _ _ _ 0 (by rw [k1,k1]) r r' q
theorem zd4 {xs:List V} {us:List Value} (r:Vals xs us):∀(p:List Nat),(∀i∈p,i<xs.length)→Vals (p.map fun i=>xs.getD i .non) (p.map fun i=>us.getD i Value.none)
 | [],_=>.nil
 | i::p,h=>by
   have hi:=h i List.mem_cons_self
   have e:xs[i]?=some (xs.getD i .non):=by rw [List.getD_eq_getElem?_getD,List.getElem?_eq_getElem hi];rfl
   obtain ⟨u,hu,ru⟩:=r.get e
   refine .cons ?_ (zd4 r p fun j hj=>h j (List.mem_cons_of_mem _ hj))
   show RelV (xs.getD i .non) (us.getD i Value.none)
   rw [List.getD_eq_getElem?_getD (l:=us),hu]
   exact ru
theorem zkC (us:List Value):(List.range us.length).map (fun i=>us.getD i Value.none)=us:=by
 apply List.ext_getElem
 ·simp
 ·intro i h1 h2
  simp [h2]
theorem zhB {l f:Addr} {xs:List V} {kf:Nat→List Int} {m:Nat} {Q:VK} (I:Inv X pins σ H s) (hl:SqL X.K H l xs) (hn:xs.length<64) (k1:∀i,(kf i).length=m) (m1:0<m) (T:Tot xs.length (fun i j=>HT.lexLt (kf i) (kf j)))
  (turn:∀i v,xs[i]?=some v→∀(pins':List (Addr × Obj)) (s':Shared) (H':Hp) (u:Value),Inv X pins' σ H' s'→Same H H'→RelV v u→wpAny (model X.prog X.w) X.A.in1.in1 (call (.ref f) [u]) (EP X pins' σ fun k H''=>Same H' H''∧∃p,k=.ref p∧H'' p=some (.tup ((kf i).map V.int))) (fun _ _=>False) s')
  (h:∀D H' (p:List Nat),Same H H'→H D=none→H' D=some (.lst (p.map fun i=>xs.getD i .non))→p.Perm (List.range xs.length)→(∀i j,i<j→j<p.length→HT.lexLt (kf (p.getD i 0)) (kf (p.getD j 0))=true)→Q (.ref D) H'):
  wpAny (model X.prog X.w) X.A (call (.builtin "sorted") [.ref l] [(Str.ofString "key",.ref f)]) (EP X pins σ Q) X.xe s:=by
 obtain ⟨its,rv,pl,hz⟩:=I.list hl
 have il:its.length=xs.length:=rv.length.symm
 have sl:(100:Nat)≤sizeLine:=by decide
 refine call_function_entry_kw kind_sorted plain_sorted entry_sorted (ksk_s1 _ _) ?_
 unfold Builtin.«sorted»
 refine wpAny_bind (m:=checkCount "sorted" 1 1 _) (wpAny_pure ?_)
 refine wpAny_bind (collect_list pl.isList ?_ (by omega))
 refine wpAny_bind (wpAny_newList ?_ (by omega))
 have kA:∀b o,s.heap.get? b=some o→((s.heap.push (seqObj "list" #[] 0)).update s.heap.objs.size (Obj.mapSeq (· ++ its.toArray))).get? b=some o:=fun b o e=>by
  rw [Heap.get?_update_ne _ _ _ _ (Nat.ne_of_lt (Heap.lt_size e))]
  exact Heap.get?_push_of_some _ e
 have sA:s.heap.objs.size≤((s.heap.push (seqObj "list" #[] 0)).update s.heap.objs.size (Obj.mapSeq (· ++ its.toArray))).objs.size:=by
  rw [Heap.size_update,size_push']
  exact Nat.le_succ _
 dsimp only
 generalize ((s.heap.push (seqObj "list" #[] 0)).update s.heap.objs.size (Obj.mapSeq (· ++ its.toArray)))=A1 at kA sA ⊢
 have hD:(A1.push (seqObj "list" its.toArray 0)).get? A1.objs.size=some (seqObj "list" its.toArray 0):=Heap.get?_push_size _ rfl
 generalize eD:A1.objs.size=D at hD sA ⊢
 have kB:∀b o,s.heap.get? b=some o→(A1.push (seqObj "list" its.toArray 0)).get? b=some o:=fun b o e=>Heap.get?_push_of_some _ (kA b o e)
 have dB:D<(A1.push (seqObj "list" its.toArray 0)).objs.size:=Heap.lt_size hD
 generalize A1.push (seqObj "list" its.toArray 0)=A2 at hD kB dB ⊢
 refine wpAny_bind (wpAny_holding (wpAny_call_entry_kw slot_list_sort ⟨_,hD,rfl⟩ entry_list_sort ?body (ksk_l1 _ _)))
 case body=>
  show wpAny _ _ (Builtin.«list.sort» ⟨[.ref D],[(Str.ofString "key",.ref f)]⟩) _ _ _
  rw [ksk_t1]
  unfold ksk_tree
  refine wpAny_bind (listItems_at hD rfl ?_)
  refine wpAny_bind (listUpdate_at hD rfl ?_ (by rw [List.size_toArray];omega) (Nat.zero_le _))
  obtain ⟨e1,hD1⟩:∃e1,(A2.update D (Obj.mapSeq fun _=>(#[]:Array Value))).get? D=some (seqObj "list" #[] e1):=⟨_,get?_update_seq hD fun _ => #[]⟩
  have kC:∀b o,s.heap.get? b=some o→(A2.update D (Obj.mapSeq fun _=>(#[]:Array Value))).get? b=some o:=fun b o e=>by
   rw [Heap.get?_update_ne _ _ _ _ (Nat.ne_of_lt (Nat.lt_of_lt_of_le (Heap.lt_size e) sA))]
   exact kB b o e
  dsimp only
  refine wpAny_bind (seqEpoch_at hD1 rfl ?_)
  refine wpAny_bind (wpAny_newTuple ?_ (by show its.length≤sizeLine;omega))
  refine wpAny_bind (wpAny_newList ?_ (Nat.zero_le _))
  refine wpAny_holding ?_
  dsimp only
  generalize A2.update D (Obj.mapSeq fun _=>(#[]:Array Value))=A3 at hD1 kC ⊢
  have hD2:=Heap.get?_push_of_some (seqObj "tuple" its.toArray 0) hD1
  have kE:∀b o,s.heap.get? b=some o→(A3.push (seqObj "tuple" its.toArray 0)).get? b=some o:=fun b o e=>Heap.get?_push_of_some _ (kC b o e)
  have sE:D<(A3.push (seqObj "tuple" its.toArray 0)).objs.size:=Heap.lt_size hD2
  show wpAny _ _ (ksk_rest D (.ref f) false its.toArray e1 (.ref (A3.push (seqObj "tuple" its.toArray 0)).objs.size)) _ _ { s with heap:=(A3.push (seqObj "tuple" its.toArray 0)).push (seqObj "list" #[] 0) }
  generalize A3.push (seqObj "tuple" its.toArray 0)=A4 at hD2 kE sE ⊢
  have hk0:(A4.push (seqObj "list" #[] 0)).get? A4.objs.size=some (seqObj "list" #[] 0):=Heap.get?_push_size _ rfl
  have hD3:=Heap.get?_push_of_some (seqObj "list" #[] 0) hD2
  have kF:∀b o,s.heap.get? b=some o→(A4.push (seqObj "list" #[] 0)).get? b=some o:=fun b o e=>Heap.get?_push_of_some _ (kE b o e)
  generalize A4.push (seqObj "list" #[] 0)=A5 at hk0 hD3 kF ⊢
  generalize A4.objs.size=kS at hk0 sE ⊢
  have ne:D≠kS:=Nat.ne_of_lt sE
  have sK:s.heap.objs.size≤kS:=Nat.le_trans sA (Nat.le_of_lt sE)
  have nK:H kS=none:=I.hok.fresh sK
  have nD:H D=none:=I.hok.fresh sA
  have fK:=I.fpOk (H':=H) sK nK
  have fD:=I.fpOk (H':=H) sA nD
  have I0:Inv X ((kS,seqObj "list" (List.toArray []) 0)::(D,seqObj "list" #[] e1)::pins) σ H { s with heap:=A5 }:=(I.kept (t':=s.toks) (h':=A5) kF).pins_of fun p hp=>by
   rcases List.mem_cons.mp hp with rfl | hp
   ·exact ⟨hk0,nK,fK.2.1,fK.2.2.1,fun v z=>by cases z⟩
   ·rcases List.mem_cons.mp hp with rfl | hp
    ·exact ⟨hD3,nD,fD.2.1,fD.2.2.1,fun v z=>by cases z⟩
    ·obtain ⟨g1,g2⟩:=I.pin p (List.mem_append_right _ hp)
     exact ⟨kF _ _ g1,g2⟩
  unfold ksk_rest
  refine wpAny_bind (wpAny_rule ?_)
  rw [←Array.forIn_toList]
  refine wpAny_bind (ksk_fold (fun i s'=>∃e ks H',ks.length=i∧Inv X ((kS,seqObj "list" (List.toArray ks) e)::(D,seqObj "list" #[] e1)::pins) σ H' s'∧Same H H'∧ziA H' kf ks) its 0 _ ⟨0,[],H,rfl,I0,Same.refl _,fun j hj=>by simp at hj⟩ (fun j x s' hx hI=>?step) fun s' hI=>?done)
  case step=>
   obtain ⟨e,ks,H',lk,I',sm,kin⟩:=hI
   have hjx:j<xs.length:=by
    have:=(List.getElem?_eq_some_iff.mp hx).1
    omega
   obtain ⟨v,hv,rvx⟩:∃v,xs[j]?=some v∧RelV v x:=by
    obtain ⟨u,hu,ru⟩:=rv.get (List.getElem?_eq_getElem hjx)
    rw [hx] at hu
    cases hu
    exact ⟨_,List.getElem?_eq_getElem hjx,ru⟩
   refine wpAny_bind (wpAny_attempt (wpAny_mono (turn j v hv _ s' H' x I' sm rvx) (fun k s'' hk=>?_) fun _ _ z=>z.elim))
   obtain ⟨w,H'',I'',rw',sm',p,rfl,hp⟩:=hk
   obtain rfl:k=.ref p:=rw'
   obtain ⟨hkS,nkS,_,_,_⟩:=I''.pin (kS,seqObj "list" (List.toArray ks) e) (List.mem_append_right _ List.mem_cons_self)
   dsimp only
   refine wpAny_bind (listUpdate_at hkS rfl ?_ (by rw [List.size_toArray];omega) (by rw [Array.size_push,List.size_toArray];omega))
   obtain ⟨c2,hc2⟩:∃c2,(s''.heap.update kS (Obj.mapSeq (·.push (.ref p)))).get? kS=some (seqObj "list" (List.toArray (ks++[.ref p])) c2):=⟨_,by
    have g:=get?_update_seq hkS (·.push (.ref p))
    rw [show (List.toArray ks).push (.ref p)=List.toArray (ks++[.ref p]) by simp] at g
    exact g⟩
   have sb:=Heap.SameBut.update s''.heap kS (Obj.mapSeq (·.push (.ref p)))
   have J:Inv X ((D,seqObj "list" #[] e1)::pins) σ H'' { s'' with heap:=s''.heap.update kS (Obj.mapSeq (·.push (.ref p))),toks:=s''.toks }:=
    (I''.pins_of (pins':=(D,seqObj "list" #[] e1)::pins) fun q hq=>I''.pin q (List.mem_append_right _ (List.mem_cons_of_mem _ hq))).turned (fun b o n g=>(sb.2 b n).trans g) nkS fK.2.1 fK.2.2.2.1 fK.2.2.2.2.1 fun q hq=>by
      rcases List.mem_append.mp hq with hq | hq
      ·exact fK.2.2.2.2.2 q (List.mem_append_left _ hq)
      ·rcases List.mem_cons.mp hq with rfl | hq
       ·exact ne
       ·exact fK.2.2.2.2.2 q (List.mem_append_right _ hq)
   refine wpAny_pure ⟨rfl,c2,ks++[.ref p],H'',by simp [lk],J.pins_of fun q hq=>?_,sm.trans sm',fun i hi=>?_⟩
   ·rcases List.mem_cons.mp hq with rfl | hq
    ·exact ⟨hc2,nkS,fK.2.1,fK.2.2.1,fun v z=>by cases z⟩
    ·exact J.pin q (List.mem_append_right _ hq)
   ·by_cases z:i<ks.length
    ·obtain ⟨p',g1,g2⟩:=kin i z
     exact ⟨p',by rw [List.getElem?_append_left z];exact g1,sm' _ _ g2⟩
    ·have ei:i=ks.length:=by simp at hi;omega
     refine ⟨p,by rw [ei];simp,?_⟩
     rw [ei,lk,Nat.zero_add]
     exact hp
  case done=>
   obtain ⟨e,ks,H',lk,I',sm,kin⟩:=hI
   rw [Nat.zero_add] at lk
   obtain ⟨hkS,nkS,_,_,_⟩:=I'.pin (kS,seqObj "list" (List.toArray ks) e) (List.mem_append_right _ List.mem_cons_self)
   obtain ⟨hDp,nDp,_,_,_⟩:=I'.pin (D,seqObj "list" #[] e1) (List.mem_append_right _ (List.mem_cons_of_mem _ List.mem_cons_self))
   refine wpAny_bind (listItems_at hkS rfl ?_)
   have tail:∀(st:SortSt) (p:List Nat),failedOf st=none→(arrOf st).map (·.2)=List.toArray (p.map fun i=>its.getD i Value.none)→p.Perm (List.range xs.length)→(∀i j,i<j→j<p.length→HT.lexLt (kf (p.getD i 0)) (kf (p.getD j 0))=true)→
     wpAny (model X.prog X.w) X.A.in1.in1 (ksk_tail D false e1 (.ref kS) st) (fun fin s''=>∃v,fin=.done (.ret v)∧wpAny (model X.prog X.w) X.A.in1 (ret (.ref D)) (fun fin s''=>∃v,fin=.done (.ret v)∧EP X pins σ Q v s'') X.xe s'') X.xe s':=by
    intro st p hf hout hp hs
    have pl2:p.length=xs.length:=by simpa using hp.length_eq
    unfold ksk_tail
    dsimp only
    rw [hout]
    refine wpAny_bind (listUpdate_at hkS rfl ?_ (by rw [List.size_toArray];omega) (Nat.zero_le _))
    refine wpAny_bind (wpAny_letGo ?_)
    have sb:=Heap.SameBut.update s'.heap kS (Obj.mapSeq fun _=>(#[]:Array Value))
    have hD':=(sb.2 D ne).trans hDp
    refine wpAny_bind (seqEpoch_at hD' rfl ?_)
    refine wpAny_bind (listUpdate_at hD' rfl ?_ (Nat.zero_le _) (by simp;omega))
    rw [hf]
    simp only [bne_self_eq_false,Bool.false_eq_true,if_false]
    obtain ⟨c2,hc2⟩:∃c2,((s'.heap.update kS (Obj.mapSeq fun _=>(#[]:Array Value))).update D (Obj.mapSeq fun _=>List.toArray (p.map fun i=>its.getD i Value.none))).get? D=some (seqObj "list" (List.toArray (p.map fun i=>its.getD i Value.none)) c2):=⟨_,get?_update_seq hD' fun _=>List.toArray (p.map fun i=>its.getD i Value.none)⟩
    have sb2:=Heap.SameBut.update (s'.heap.update kS (Obj.mapSeq fun _=>(#[]:Array Value))) D (Obj.mapSeq fun _=>List.toArray (p.map fun i=>its.getD i Value.none))
    have kp:∀b o,b≠kS→b≠D→s'.heap.get? b=some o→((s'.heap.update kS (Obj.mapSeq fun _=>(#[]:Array Value))).update D (Obj.mapSeq fun _=>List.toArray (p.map fun i=>its.getD i Value.none))).get? b=some o:=fun b o n1 n2 g=>(sb2.2 b n2).trans ((sb.2 b n1).trans g)
    have trk:∀b u,H' b=some u→b≠kS∧b≠D:=fun b u g=>⟨(fun z=>by rw [z,nkS] at g;cases g),fun z=>by rw [z,nDp] at g;cases g⟩
    refine wpAny_pure ⟨_,rfl,wpAny_pure ⟨_,rfl,.ref D,upd H' D (.lst (p.map fun i=>xs.getD i .non)),?_,rfl,h D _ p (fun b u g=>?_) nD zar hp hs⟩⟩
    ·refine (I'.pins_of (pins':=pins) fun q hq=>I'.pin q (List.mem_append_right _ (List.mem_cons_of_mem _ (List.mem_cons_of_mem _ hq)))).step (g':=s'.gens) (d':=s'.drawn) (t':=s'.toks) (ch:=[kS,D]) (fun b hb=>?_) (fun b o _ _ hc g _=>kp b o (fun z=>hc (by simp [z])) (fun z=>hc (by simp [z])) g)
      (fun b o _ _ hc g _=>⟨o.slots,kp b o (fun z=>hc (by simp [z])) (fun z=>hc (by simp [z])) g⟩) (fun b o hc _ n=>?_) (fun b o hc g=>⟨o,kp b o (fun z=>hc (by simp [z])) (fun z=>hc (by simp [z])) g⟩) (fun b ys g=>?_) (fun b o u g=>?_) (fun b lp lq g=>?_) (fun mm hm=>?_) (fun b u g=>?_) I'.bare
     ·rcases List.mem_cons.mp hb with rfl | hb
      ·exact ⟨fK.2.2.2.1,fK.2.1,fK.2.2.2.2.1,fK.2.2.2.2.2⟩
      ·have:b=D:=by simpa using hb
       subst this
       exact ⟨fD.2.2.2.1,fD.2.1,fD.2.2.2.2.1,fD.2.2.2.2.2⟩
     ·rw [zap (fun z=>hc (by simp [z]))]
      exact n
     ·rw [zap (trk b _ g).2]
      exact g
     ·rw [zap (trk b _ g).2]
      exact g
     ·rw [zap (trk b _ g).2]
      exact g
     ·obtain ⟨o,es,ep,g,r⟩:=hm
      exact ⟨o,es,ep,kp _ o (Ne.symm fK.2.1) (Ne.symm fD.2.1) g,r⟩
     ·by_cases z:b=D
      ·subst z
       rw [zar] at g
       cases g
       refine ⟨by rw [List.length_map,pl2];omega,_,c2,zd4 rv p fun i hi=>List.mem_range.mp (hp.mem_iff.mp hi),hc2⟩
      ·rw [zap z] at g
       refine (I'.hok b u g).stay (fun d v hd q=>kp d v ?_ ?_ q) (fun d q=>?_) (fun d ys q=>?_) fun d ob ys q=>?_
       ·rcases hd with y | y
        ·rw [y];exact (trk b u g).1
        ·exact (trk d _ y).1
       ·rcases hd with y | y
        ·rw [y];exact (trk b u g).2
        ·exact (trk d _ y).2
       ·rw [zap (trk d _ q).2]
        exact q
       ·rw [zap (trk d _ q).2]
        exact q
       ·rw [zap (trk d _ q).2]
        exact q
    ·rw [zap (trk b _ (sm b u g)).2]
     exact sm b u g
   unfold ksk_end
   dsimp only
   simp only [Bool.false_eq_true,if_false]
   by_cases n2:its.toArray.size<2
   ·rw [if_pos n2,if_pos n2]
    refine wpAny_bind (wpAny_pure ?_)
    rw [StateT.run_pure]
    refine wpAny_bind (wpAny_pure ?_)
    dsimp only
    refine tail _ (List.range xs.length) rfl ?_ (List.Perm.refl _) fun i j ij jl=>?_
    ·show ((List.toArray ks).zip its.toArray).map (·.2)=_
     rw [←il,zkC]
     apply Array.toList_inj.mp
     rw [Array.toList_map,ksk_zip]
     exact List.map_snd_zip (by simp;omega)
    ·rw [List.size_toArray] at n2
     rw [List.length_range] at jl
     omega
   ·rw [if_neg n2,if_neg n2]
    rw [List.size_toArray] at n2
    refine wpAny_bind (ziB I' (fun i=>by rw [k1];exact m1) kin (by omega) ?_)
    refine wpAny_bind (wpAny_mono (kat_run (vs:=its) (Q:=fun st' s''=>∃p:Array Nat,arrOf st'=p.map (kas_item ((List.toArray ks).zip its.toArray))∧failedOf st'=none∧s''=s'∧Pm xs.length p∧Sd (fun i j=>HT.lexLt (kf i) (kf j)) p xs.length) (G:=fun p s''=>s''=s'∧Pm xs.length p∧Sd (fun i j=>HT.lexLt (kf i) (kf j)) p xs.length)
     lk (by omega) (by omega) (fun p st' s'' _ a2 a3 a4=>⟨p,a2,a3,a4⟩) ?_) ?_ fun _ _ z=>z)
    ·rw [il]
     refine Asks.wp (n:=xs.length) (lt:=fun i j=>HT.lexLt (kf i) (kf j)) (R:=fun p=>Pm xs.length p∧Sd (fun i j=>HT.lexLt (kf i) (kf j)) p xs.length) (fun i j C hi hj hC=>?_) (fun p hp=>⟨rfl,hp⟩) _ (zlm T (by omega))
     exact zjK I' k1 kin (by omega) (by omega) hC
    ·rintro ⟨⟨⟩,st'⟩ s'' ⟨p,har,hf,rfl,P,S⟩
     refine tail st' p.toList hf (kat_snds lk har) P.pm fun i j ij jl=>?_
     have e2:∀k,p.toList.getD k 0=p.getD k 0:=fun k=>by rw [List.getD_eq_getElem?_getD,atq];simp
     rw [e2,e2]
     exact S i j ij (by rw [Array.length_toList,P.sz] at jl;exact jl)
end
end L2
namespace L2
open PySem PySem.Spec PyProof.Rows PySem.W
def zmn (K:Frag) (T:Addr) (lp:Pos) (q:Str) (t:TA) (js:List Nat) (te:TE):TE:=fun σ H Q=>t σ H fun vs H1=>∃(l:Addr) (xs:List V) (kf:Nat→List Int) (m:Nat),vs=[.ref l]∧SqL K H1 l xs∧xs.length<64∧(∀i,(kf i).length=m)∧0<m∧
 Tot xs.length (fun i j=>HT.lexLt (kf i) (kf j))∧H1 T=some (.tbl lp q)∧∀H2,Same H1 H2→
  (∀i v,xs[i]?=some v→∀H3,Same H2 H3→te (some v::caps σ js) H3 fun k H4=>Same H3 H4∧∃p,k=.ref p∧H4 p=some (.tup ((kf i).map V.int)))∧
  ∀D H' (p:List Nat),Same H2 H'→H2 D=none→H' D=some (.lst (p.map fun i=>xs.getD i .non))→p.Perm (List.range xs.length)→(∀i j,i<j→j<p.length→HT.lexLt (kf (p.getD i 0)) (kf (p.getD j 0))=true)→Q (.ref D) H'
theorem zhC {X:Cx} {sp pos kp lp:Pos} {e:Expr} {ar:Arguments} {body:Expr} {scope:Scope} {q x:Str} {N:List Str} {js:List Nat} {T:Addr} {t:TA} {te:TE}
  (S:CompScope X scope x N js) (D:Site X.K X.mg X.base X.env.code T) (hq:X.env.qual ++ "<lambda>" = q) (hdp:X.A.depth<recursionLimit) (hc:X.calm=true) (hg:Gl X "sorted") (hm:X.mg "sorted" = none) (ha:PA X [e] t)
  (he:∀cl f cd s H,PE (zjJ X N scope cl q f cd X.A.in1.in1 s H) body te)
  (hd:defaultsOf ar X.env=([],[]):=by rfl) (co:scope.isCoroutine=false:=by rfl) (ge:scope.isGenerator=false:=by rfl)
  (hb:∀cl pm c ct u,bindArgs (kla_fn "<lambda>" q ar body scope cl pm c ct) ⟨[u],[]⟩=pure [(x,u)]:=by intro _ _ _ _ _;rfl)
  (hst:backTo pos (starEach [e] X.env)=(false,eval e X.env)::backTo pos (starEach [] X.env):=by rfl):
  PE X (.Call (.Name "sorted" sp) [e] [⟨some "key",.Lambda ar body scope lp,kp⟩] pos) (zmn X.K T lp q t js te):=by
 with_unfolding_all
  intro pins s σ H Q I h
  refine wpAny_Call_Name_kw (zdu I hg hm ziz ?_)
  refine callWith_kw (thn (ha pos pins s σ H _ I h) fun us s1 ⟨vs,H1,I1,r,q1⟩=>?_) hst (by rw [hst];rfl) rfl rfl
  obtain ⟨l,xs,kf,m,rfl,hl,hn,k1,m1,Tt,hT,more⟩:=q1
  obtain ⟨u,rfl,ru⟩:=zer r
  cases ru
  refine kws_cons (zg2 I1 S D hT hq hd fun f cl s2 H2 I2 sm L=>kws_nil ?_)
  obtain ⟨turn,fin⟩:=more H2 sm
  have hl2:SqL X.K H2 l xs:=sm.seq hl
  refine zhB (f:=f) I2 hl2 hn k1 m1 Tt (fun i v hv pins' s' H' u I' sm' rv=>?_) fun D' H' p a1 a2 a3 a4 a5=>fin D' H' p a1 a2 a3 a4 a5
  exact zln (A:=X.A.in1.in1) I' S (L.same sm') I'.ok.frames (I'.ok.hd hc) hdp co ge (hb cl) (fun cd=>he cl f cd s' H') rv (turn i v hv H' sm')
structure FunC (K:Frag) (x qual:Str) (st:Stmt) (f:Addr) (fd:FuncData) (cv:Value):Prop where
 ex:∃(oc:Value) (od:Option Addr) (kV doc pm:Value) (an:Option Addr) (ct:Value) (osl:Array (Option Value)),
  fd=fnOf x qual (zak st) (zag st) (zac st) .none kV doc pm an cv ct∧K.lookup f=some ⟨oc,od,.func fd,osl⟩∧codeIn K cv qual=true
theorem FunC.ok {P:Program} {w:World} {K:Frag} {mg:Str→Option Value} {base:Heap} {x qual:Str} {st:Stmt} {f:Addr} {fd:FuncData} {cv:Value} {N ps:List Str} {k:Nat} {sp:Sp} (F:FunC K x qual st f fd cv) (S:FnScope N ps (zac st)) (len:∀vs H Q E,sp vs H Q E→vs.length=ps.length)
  (hbody:∀(A:Around) (outer:List Env) (s:Shared) (H:Hp) (vs:List V) (Q:VK) (E:XK),Room k (A.deeper (envOfC qual (zac st) s.heap.objs.size f cv))→sp vs H Q E→
    ∃t,PSs (cxOf CX0 P w K mg base N qual (zac st) f cv A outer s H E).nox (zag st) t∧t { nx:=fun _ H'=>Q .non H',rt:=Q } (zcY N vs) H):FnOk P w K mg base CX0 (k+1) f fd ps sp:=by
 obtain ⟨oc,od,kV,doc,pm,an,ct,osl,rfl,lk,hcd⟩:=F.ex
 refine zk7 lk hcd S len fun A outer s H vs Q E hr hsp=>?_
 obtain ⟨t,h,q⟩:=hbody A outer s H vs Q E hr hsp
 exact ⟨t,h.nox,q⟩
theorem ziC {K:Frag} {x qual:Str} {st:Stmt} {f:Addr} {oc:Value} {od an:Option Addr} {osl:Array (Option Value)} {kV doc pm cdv ct:Value} (l:K.lookup f=some ⟨oc,od,.func (fnOf x qual (zak st) (zag st) (zac st) .none kV doc pm an cdv ct),osl⟩)
 (c:codeIn K cdv qual=true):FunC K x qual st f (fnOf x qual (zak st) (zag st) (zac st) .none kV doc pm an cdv ct) cdv:=⟨⟨oc,od,kV,doc,pm,an,ct,osl,rfl,l,c⟩⟩
structure DfnC (K:Frag) (mg:Str→Option Value) (x:Str) (st:Stmt) (ps:List Str) (f:Addr) (fd:FuncData) (cv:Value):Prop where
 F:FunC K x x st f fd cv
 kp:keepIn K (.ref f)=true
 b:zbN K fd ps []
 m:mg x=some (.ref f)
theorem DfnC.cal {P:Program} {w:World} {K:Frag} {mg:Str→Option Value} {base:Heap} {x:Str} {st:Stmt} {ps:List Str} {f:Addr} {fd:FuncData} {cv:Value} {k:Nat} {sp:Sp}
 (D:DfnC K mg x st ps f fd cv) (G:FnOk P w K mg base CX0 k f fd ps sp):Cal P w K mg base x k ps sp:=⟨⟨f,fd,G,D.b,D.m,D.kp⟩⟩
def zd5 (K:Frag):Bool:=K.all fun p=>match p.2.cls,p.2.data with | .none,.fields _=>false | _,_=>true
theorem zeD:∀ {K:Frag},zd5 K=true→∀ {b:Addr} {vs:Array Value},K.lookup b≠some { cls:=.none,data:=.fields vs }
 | [],_,b,vs,e=>by cases e
 | (a,o)::K,h,b,vs,e=>by
   unfold zd5 at h
   rw [List.all_cons,Bool.and_eq_true] at h
   rw [List.lookup_cons] at e
   cases z:b==a with
   | true=>
     rw [z] at e
     cases e
     exact absurd h.1 (by simp)
   | false=>
     rw [z] at e
     exact zeD (K:=K) h.2 e
end L2
namespace L2
open PySem PySem.Spec PyProof.Rows
theorem ziD {b:Int} (h0:0<b) (h1:b≤12):b∣27720:=by
 obtain ⟨k,rfl⟩:=Int.eq_ofNat_of_zero_le (Int.le_of_lt h0)
 have hk:k≤12:=Int.ofNat_le.mp h1
 have hp:0<k:=Int.ofNat_lt.mp h0
 match k,hk,hp with
 | 1,_,_=>exact ⟨27720,rfl⟩
 | 2,_,_=>exact ⟨13860,rfl⟩
 | 3,_,_=>exact ⟨9240,rfl⟩
 | 4,_,_=>exact ⟨6930,rfl⟩
 | 5,_,_=>exact ⟨5544,rfl⟩
 | 6,_,_=>exact ⟨4620,rfl⟩
 | 7,_,_=>exact ⟨3960,rfl⟩
 | 8,_,_=>exact ⟨3465,rfl⟩
 | 9,_,_=>exact ⟨3080,rfl⟩
 | 10,_,_=>exact ⟨2772,rfl⟩
 | 11,_,_=>exact ⟨2520,rfl⟩
 | 12,_,_=>exact ⟨2310,rfl⟩
theorem zjL {m b:Int} (hm:0<m) (hb:0<b):0<m*b / M1.gd m b∧m∣m*b / M1.gd m b∧b∣m*b / M1.gd m b∧∀k:Int,m∣k→b∣k→m*b / M1.gd m b∣k:=by
 obtain ⟨x,rfl⟩:=Int.eq_ofNat_of_zero_le (Int.le_of_lt hm)
 obtain ⟨y,rfl⟩:=Int.eq_ofNat_of_zero_le (Int.le_of_lt hb)
 have e:(x:Int)*(y:Int) / M1.gd x y=((Nat.lcm x y:Nat):Int):=by
  unfold M1.gd
  rw [Int.gcd_natCast_natCast]
  unfold Nat.lcm
  rw [←Int.natCast_mul,←Int.natCast_ediv]
 rw [e]
 have x0:0<x:=by omega
 have y0:0<y:=by omega
 refine ⟨?_,?_,?_,fun k h1 h2=>?_⟩
 ·have:=Nat.lcm_pos x0 y0
  omega
 ·exact Int.natCast_dvd_natCast.mpr (Nat.dvd_lcm_left x y)
 ·exact Int.natCast_dvd_natCast.mpr (Nat.dvd_lcm_right x y)
 ·rw [Int.ofNat_dvd_left] at h1 h2 ⊢
  exact Nat.lcm_dvd h1 h2
def wM (c:Cl) (t M:Int):Int:=c.wt*(M / c.wb)+(t-c.came)*(c.st*(M / c.sb))
def kM (c:Cl) (t M:Int):List Int:=[-(wM c t M),c.came,c.n]
theorem zmo {c:Cl} {t M:Int} (h1:c.wb∣M) (h2:c.sb∣M):wM c t M*wbot c=wtop c t*M:=by
 have e1:=Int.ediv_mul_cancel h1
 have e2:=Int.ediv_mul_cancel h2
 unfold wM wbot wtop
 rw [Int.add_mul,Int.add_mul]
 congr 1
 ·calc c.wt*(M / c.wb)*(c.wb*c.sb)=c.wt*c.sb*(M / c.wb*c.wb):=by ac_rfl
   _=c.wt*c.sb*M:=by rw [e1]
 ·calc (t-c.came)*(c.st*(M / c.sb))*(c.wb*c.sb)=(t-c.came)*c.st*c.wb*(M / c.sb*c.sb):=by ac_rfl
   _=(t-c.came)*c.st*c.wb*M:=by rw [e2]
theorem zni {c d:Cl} {t M:Int} (c1:c.wb∣M) (c2:c.sb∣M) (d1:d.wb∣M) (d2:d.sb∣M):gap c d t*M=(wM c t M-wM d t M)*(wbot c*wbot d):=by
 have e1:=zmo (t:=t) c1 c2
 have e2:=zmo (t:=t) d1 d2
 unfold gap
 rw [Int.sub_mul,Int.sub_mul]
 congr 1
 ·calc wtop c t*wbot d*M=(wtop c t*M)*wbot d:=by ac_rfl
   _=(wM c t M*wbot c)*wbot d:=by rw [e1]
   _=wM c t M*(wbot c*wbot d):=by ac_rfl
 ·calc wtop d t*wbot c*M=(wtop d t*M)*wbot c:=by ac_rfl
   _=(wM d t M*wbot d)*wbot c:=by rw [e2]
   _=wM d t M*(wbot c*wbot d):=by ac_rfl
theorem zlo {c d:Cl} {t M:Int} (oc:c.Ok) (od:d.Ok) (hM:0<M) (c1:c.wb∣M) (c2:c.sb∣M) (d1:d.wb∣M) (d2:d.sb∣M):HT.lexLt (kM c t M) (kM d t M)=ahd c d t:=by
 have e:=zni (t:=t) c1 c2 d1 d2
 have bp:0<wbot c*wbot d:=Int.mul_pos (zd0 oc) (zd0 od)
 unfold kM ahd
 rw [HT.lexLt_cons,zll]
 rcases (by omega:wM c t M-wM d t M<0∨wM c t M-wM d t M=0∨0<wM c t M-wM d t M) with z | z | z
 ·have g:gap c d t<0:=by
   refine Int.not_le.mp fun y=>?_
   have h1:=Int.mul_nonneg y (Int.le_of_lt hM)
   have h2:=Int.mul_neg_of_neg_of_pos z bp
   omega
  rw [if_neg (by omega),if_neg (by omega),decide_eq_false (by omega),decide_eq_false (by omega)]
 ·have g:gap c d t=0:=by
   rw [z,Int.zero_mul] at e
   rcases Int.mul_eq_zero.mp e with y | y
   ·exact y
   ·omega
  rw [if_pos (by omega),if_pos g]
 ·have g:0<gap c d t:=by
   refine Int.not_le.mp fun y=>?_
   have h1:=Int.mul_nonpos_of_nonpos_of_nonneg y (Int.le_of_lt hM)
   have h2:=Int.mul_pos z bp
   omega
  rw [if_neg (by omega),if_neg (by omega),decide_eq_true (by omega),decide_eq_true (by omega)]
theorem zmp {cs:List Cl} (g:Good cs) {i j:Nat} {c d:Cl} (h1:cs[i]?=some c) (h2:cs[j]?=some d) (ne:i≠j):c.n≠d.n:=fun e=>by
 obtain ⟨a1,b1⟩:=List.getElem?_eq_some_iff.mp h1
 obtain ⟨a2,b2⟩:=List.getElem?_eq_some_iff.mp h2
 have nd:=g.nd
 have:=(List.getElem_inj (xs:=cs.map (·.n)) (i:=i) (j:=j) (h₀:=by simpa using a1) (h₁:=by simpa using a2) nd).mp (by rw [List.getElem_map,List.getElem_map,b1,b2];exact e)
 exact ne this
def zgl (cs:List Cl) (t:Int) (i j:Nat):Bool:=match cs[i]?,cs[j]? with
 | some c,some d=>ahd c d t
 | _,_=>false
theorem zmq {cs:List Cl} (g:Good cs) (t:Int):Tot cs.length (zgl cs t) where
 asym:=fun i j hi hj h=>by
  unfold zgl at h ⊢
  rw [List.getElem?_eq_getElem hi,List.getElem?_eq_getElem hj] at h ⊢
  cases z:ahd cs[j] cs[i] t with
  | false=>exact z
  | true=>exact (zd2 h z).elim
 tot:=fun i j hi hj ne h=>by
  unfold zgl at h ⊢
  rw [List.getElem?_eq_getElem hi,List.getElem?_eq_getElem hj] at h ⊢
  show ahd cs[j] cs[i] t=true
  rw [zgZ (zmp g (List.getElem?_eq_getElem hi) (List.getElem?_eq_getElem hj) ne)]
  have h:ahd cs[i] cs[j] t=false:=h
  rw [h]
  rfl
 trans:=fun i j k hi hj hk h1 h2=>by
  unfold zgl at h1 h2 ⊢
  rw [List.getElem?_eq_getElem hi,List.getElem?_eq_getElem hj] at h1
  rw [List.getElem?_eq_getElem hj,List.getElem?_eq_getElem hk] at h2
  rw [List.getElem?_eq_getElem hi,List.getElem?_eq_getElem hk]
  exact zfJ (g.ok _ (List.getElem_mem hi)) (g.ok _ (List.getElem_mem hj)) (g.ok _ (List.getElem_mem hk)) h1 h2
def zdd (cs:List Cl) (t M:Int) (i:Nat):List Int:=match cs[i]? with
 | some c=>kM c t M
 | none=>[0,0,0]
theorem zmr (cs:List Cl) (t M:Int) (i:Nat):(zdd cs t M i).length=3:=by
 unfold zdd
 cases cs[i]?<;>rfl
theorem zms {cs:List Cl} (g:Good cs) {t M:Int} (hM:0<M) (hd:∀c∈cs,c.wb∣M∧c.sb∣M) {i j:Nat} (hi:i<cs.length) (hj:j<cs.length):HT.lexLt (zdd cs t M i) (zdd cs t M j)=zgl cs t i j:=by
 unfold zdd zgl
 rw [List.getElem?_eq_getElem hi,List.getElem?_eq_getElem hj]
 have m1:=List.getElem_mem hi
 have m2:=List.getElem_mem hj
 exact zlo (g.ok _ m1) (g.ok _ m2) hM (hd _ m1).1 (hd _ m1).2 (hd _ m2).1 (hd _ m2).2
theorem Tot.congr {n:Nat} {lt lt':Nat→Nat→Bool} (T:Tot n lt) (h:∀i j,i<n→j<n→lt' i j=lt i j):Tot n lt' where
 asym:=fun i j hi hj e=>by
  rw [h i j hi hj] at e
  rw [h j i hj hi]
  exact T.asym i j hi hj e
 tot:=fun i j hi hj ne e=>by
  rw [h i j hi hj] at e
  rw [h j i hj hi]
  exact T.tot i j hi hj ne e
 trans:=fun i j k hi hj hk e1 e2=>by
  rw [h i j hi hj] at e1
  rw [h j k hj hk] at e2
  rw [h i k hi hk]
  exact T.trans i j k hi hj hk e1 e2
theorem zmt {cs:List Cl} (g:Good cs) {t M:Int} (hM:0<M) (hd:∀c∈cs,c.wb∣M∧c.sb∣M):Tot cs.length (fun i j=>HT.lexLt (zdd cs t M i) (zdd cs t M j)):=(zmq g t).congr fun i j hi hj=>zms g hM hd hi hj
theorem ziE {α:Type} (d : α) (xs:List α) {p:List Nat} (h:p.Perm (List.range xs.length)):(p.map fun i=>xs.getD i d).Perm xs:=by
 have e:(List.range xs.length).map (fun i=>xs.getD i d)=xs:=by
  apply List.ext_getElem
  ·simp
  ·intro i h1 h2
   simp [h2]
 have:=h.map fun i=>xs.getD i d
 rw [e] at this
 exact this
theorem zjM {ps:List (Addr × Cl)} (g:Good (ps.map (·.2))) {t M:Int} (hM:0<M) (hd:∀c∈ps.map (·.2),c.wb∣M∧c.sb∣M) {p:List Nat} (h:p.Perm (List.range (ps.map (·.2)).length)) (d:Addr × Cl)
  (hs:∀i j,i<j→j<p.length→HT.lexLt (zdd (ps.map (·.2)) t M (p.getD i 0)) (zdd (ps.map (·.2)) t M (p.getD j 0))=true):Srt t ((p.map fun i=>ps.getD i d).map (·.2)):=by
 unfold Srt
 rw [List.map_map,List.pairwise_iff_getElem]
 intro i j hi hj ij
 rw [List.length_map] at hi hj
 have lt:∀k (hk:k<p.length),p[k]<(ps.map (·.2)).length:=fun k hk=>List.mem_range.mp (h.mem_iff.mp (List.getElem_mem hk))
 have z:=hs i j ij hj
 rw [List.getD_eq_getElem?_getD,List.getD_eq_getElem?_getD,List.getElem?_eq_getElem hi,List.getElem?_eq_getElem hj] at z
 have z:HT.lexLt (zdd (ps.map (·.2)) t M p[i]) (zdd (ps.map (·.2)) t M p[j])=true:=z
 rw [zms g hM hd (lt i hi) (lt j hj)] at z
 unfold zgl at z
 rw [List.getElem?_eq_getElem (lt i hi),List.getElem?_eq_getElem (lt j hj)] at z
 have z:ahd ((ps.map (·.2))[p[i]]'(lt i hi)) ((ps.map (·.2))[p[j]]'(lt j hj)) t=true:=z
 rw [List.getElem_map,List.getElem_map] at z
 rw [List.getElem_map,List.getElem_map]
 have e:∀k (hk:k<p.length),ps.getD p[k] d=ps[p[k]]'(by have:=lt k hk;simpa using this):=fun k hk=>by
  have:=lt k hk
  rw [List.getD_eq_getElem?_getD,List.getElem?_eq_getElem (by simpa using this)]
  rfl
 show ahd (ps.getD p[i] d).2 (ps.getD p[j] d).2 t=true
 rw [e i hi,e j hj]
 exact z
section
variable {X:Cx}
theorem ziF (bs:List Bool):(List.range bs.length).any (fun i=>(bs[i]?).getD false)=bs.any id:=by
 induction bs with
 | nil=>rfl
 | cons b r ih=>
   rw [List.length_cons,List.range_succ_eq_map,List.any_cons,List.any_map,List.any_cons,←ih]
   rfl
theorem ziG (hc:X.calm=true):zdU X (.builtin "any") (fun xs H Q=>∃(p:Addr) (bs:List Bool),xs=[.ref p]∧SqL X.K H p (bs.map V.bl)∧Q (.bl (bs.any id)) H):=by
 intro pins s σ H xs us Q I r h
 obtain ⟨p,bs,rfl,hq,q⟩:=h
 obtain ⟨u,rfl,ru⟩:=zer r
 cases ru
 obtain ⟨its,rv,pl,hz⟩:=I.list hq
 have lt:p<s.heap.objs.size:=by
  obtain ⟨o,ho,_⟩:=pl.isList
  exact Heap.lt_size ho
 have hl:its.toArray.size=bs.length:=by
  have:=rv.length
  simp at this ⊢
  omega
 refine call_any_walk (wpAny_pyIter_list pl.isList ?_)
 refine ⟨s.heap.objs.size,_,_,_,_,_,fun i=>(bs[i]?).getD false,rfl,Walks.list (prog:=X.prog) (w:=X.w) (A:=X.A.in1) (show X.A.in1.handled=none from I.ok.hd hc) _ p (Nat.ne_of_lt lt) its.toArray,⟨⟨_,Heap.get?_push_size _ rfl,rfl,rfl⟩,pl.isList.at fun o e=>Heap.get?_push_of_some _ e⟩,fun i v s' Q' E' hP hQ'=>?_,fun h' tk kk=>?_⟩
 ·have hP':its[i]?=some v:=by simpa using hP
  cases e:bs[i]? with
  | none=>
    have h1:its.length≤i:=by
     have h2:=List.getElem?_eq_none_iff.mp e
     simp at hl
     omega
    rw [List.getElem?_eq_none h1] at hP'
    cases hP'
  | some b=>
    dsimp only at hQ'
    rw [e] at hQ'
    obtain ⟨u,hu,ru⟩:=rv.get (i:=i) (x:=.bl b) (by rw [List.getElem?_map,e];rfl)
    rw [hP'] at hu
    cases hu
    cases (show v=Value.bool b from ru)
    exact wpAny_truthy_bool hQ'
 ·rw [hl,ziF]
  refine ⟨.bl _,H,I.kept (t':=tk) (h':=h') fun b o e=>kk b o ?_ (Heap.get?_push_of_some _ e),rfl,q⟩
  intro z
  have z:b=s.heap.objs.size:=by simpa using z
  exact Nat.ne_of_lt (Heap.lt_size e) z
end
end L2
namespace L2
open PySem PySem.Spec PyProof.Rows PySem.W
section
variable {X:Cx}
end
end L2
namespace L2
open PySem PySem.Spec PyProof.Rows
abbrev Row:=Int × Int × Int
def Row.key (r:Row):List Int:=[r.1,r.2.1,r.2.2]
def rlt (r q:Row):Bool:=HT.lexLt (Row.key r) (Row.key q)
def rk (rows:List Row) (i:Nat):List Int:=match rows[i]? with
 | some r=>Row.key r
 | none=>[0,0,0]
noncomputable def mt (b l:Cl) (t:Int):Option Int:=open Classical in if h:∃u,Pass b l t (.int u) then some h.choose else none
structure RowsOf (cs:List Cl) (t:Int) (rows:List Row):Prop where
 srt:rows.Pairwise fun r q=>rlt r q=true
 mem:∀r:Row,r∈rows↔∃b f,b∈cs∧f∈cs∧ahd f b t=true∧mt b f t=some r.1∧r.2.1=b.n∧r.2.2=f.n
theorem zkD {cs:List Cl} {t:Int} (h:Srt t cs) {j k:Nat} {b f:Cl} (hb:cs[j]?=some b) (hf:cs[k]?=some f) (kj:k<j):ahd f b t=true:=by
 obtain ⟨a1,b1⟩:=List.getElem?_eq_some_iff.mp hb
 obtain ⟨a2,b2⟩:=List.getElem?_eq_some_iff.mp hf
 have:=(List.pairwise_iff_getElem.mp h) k j a2 a1 kj
 rw [b1,b2] at this
 exact this
structure IsRows (H:Hp) (l:Addr) (rs:List (Addr × Row)):Prop where
 at_:H l=some (.lst (rs.map fun r=>V.ref r.1))
 rw:∀r,r∈rs→H r.1=some (.tup ((Row.key r.2).map V.int))
end L2
namespace L2
open PySem PySem.Spec PyProof.Rows
theorem zfK {K:PySem.W.Frag} {a:Addr} {xs:List V} {js:List Nat} {tc:TT} {te:TE} {σ:St} {H1:Hp} {Q:VK} (p:Nat→Bool) (f:Nat→List V) (hl:SqL K H1 a xs)
  (ht:∀i x Hh (Q':Bool→Hp→Prop),xs[i]?=some x→Same H1 Hh→(∀Hh',Same Hh Hh'→Q' (p i) Hh')→tc (some x::caps σ js) Hh Q')
  (he:∀i x Hh (Q':VK),xs[i]?=some x→p i=true→Same H1 Hh→(∀b Hh',Same Hh Hh'→Hh' b=some (.tup (f i))→Q' (.ref b) Hh')→te (some x::caps σ js) Hh Q')
  (hz:xs.length<sizeLine) (q:∀D H2 (bs:List (Addr × List V)),Same H1 H2→H1 D=none→H2 D=some (.lst (bs.map fun b=>V.ref b.1))→bs.map (·.2)=((List.range xs.length).filter p).map f→(∀b,b∈bs→H2 b.1=some (.tup b.2))→Q (.ref D) H2):
  zeA (Itl K a) js tc te σ H1 Q:=by
 intro D H2 s2 hD h2
 refine ⟨fun i m acc H3=>m=xs.length-i∧i≤xs.length∧∃bs:List (Addr × List V),acc=(bs.map fun b=>V.ref b.1)∧bs.map (·.2)=((List.range i).filter p).map f∧(∀b,b∈bs→H3 b.1=some (.tup b.2))∧Same H1 H3∧H3 D=some (.lst acc),⟨_,rfl,Nat.zero_le _,[],rfl,by simp,fun b hb=>by simp at hb,s2,h2⟩,?_⟩
 rintro i m acc H3 ⟨rfl,hi,bs,ea,eb,hb,s3,h3⟩
 have hl3:SqL K H3 a xs:=s3.seq hl
 have hll:acc.length≤xs.length:=by
  have e:=congrArg List.length eb
  rw [List.length_map,List.length_map] at e
  rw [ea,List.length_map,e]
  refine Nat.le_trans (List.length_filter_le _ _) ?_
  rw [List.length_range]
  exact hi
 refine ⟨h3,by omega,?_⟩
 by_cases hlt:i<xs.length
 ·have hx:xs[i]?=some xs[i]:=List.getElem?_eq_getElem hlt
  refine .inr ⟨⟨xs,_,hl3,hx⟩,fun y H4 z=>?_⟩
  obtain ⟨e,ey⟩:=z
  have ey2:=ey xs hl3
  subst e
  refine ht i y _ _ ey2 s3 fun H5 s5=>?_
  have h5:=s5 _ _ h3
  have s35:=s3.trans s5
  have tk:(List.range (i+1)).filter p=(List.range i).filter p++(if p i=true then [i] else []):=by
   rw [List.range_succ,List.filter_append]
   congr 1
   cases h:p i<;>simp [h]
  cases hp:p i with
  | true=>
    refine iteT (he i y _ _ ey2 hp s35 fun b6 H6 s6 g6=>⟨s6 _ _ h5,fun H7 k7 h7=>⟨xs.length-(i+1),by omega,rfl,hlt,bs++[(b6,f i)],?_,?_,fun b hb'=>?_,fun b o e=>?_,h7⟩⟩)
    ·rw [ea,List.map_append]
     rfl
    ·rw [List.map_append,eb,tk,hp,if_pos rfl,List.map_append]
     rfl
    ·have nD:∀c t,H6 c=some (.tup t)→c≠D:=fun c t g z=>by
      rw [z,s6 _ _ h5] at g
      cases g
     rcases List.mem_append.mp hb' with h | h
     ·have g:=s6 _ _ (s5 _ _ (hb b h))
      exact k7 _ _ (nD _ _ g) g
     ·have:b=(b6,f i):=by simpa using h
      subst this
      exact k7 _ _ (nD _ _ g6) g6
    ·by_cases hbD:b=D
     ·subst hbD
      rw [hD] at e
      cases e
     ·exact k7 b o hbD (s6 b o (s35 b o e))
  | false=>
    refine iteF ⟨xs.length-(i+1),by omega,rfl,hlt,bs,ea,?_,fun b hb'=>s5 _ _ (hb b hb'),s35,h5⟩
    rw [tk,hp,if_neg Bool.false_ne_true,List.append_nil]
    exact eb
 ·have e:i=xs.length:=by omega
  subst e
  refine .inl ⟨⟨xs,hl3,Nat.le_refl _⟩,?_⟩
  rw [ea] at h3
  exact q D _ bs s3 hD h3 eb hb
section
variable {X:Cx} {K:PySem.W.Frag}
end
section
variable {X:Cx}
def zmu:TE:=fun _ H Q=>∀p H2,Same H H2→H p=none→H2 p=some (.dK [])→Q (.ref p) H2
theorem zg4 {pos:Pos}:PE X (.Dict [] [] pos) zmu:=by
 with_unfolding_all
  exact fun pins s σ H Q I h=>zjC pins s σ H Q I fun p n=>h p _ (zby n _) n zar
end
def ziH:Expr→Bool
 | .Starred .. => true
 | _=>false
theorem zhD {e:Expr} (h:ziH e=false) (rest:List Expr) (env:Env):starEach (e::rest) env=(false,eval e env)::starEach rest env:=by
 cases e<;>first | rfl | cases h
section
variable {X:Cx}
theorem zjN {e:Expr} {es:List Expr} {te:TE} {t:TA} (ha:PE X e te) (hr:PA X es t) (hs:ziH e=false:=by rfl):PA X (e::es) (zk6 te t):=zaa ha hr (zhD hs es X.env)
end
theorem ziI:∀ {l m:List Int},l.Nodup→(∀x,x∈l→x∈m)→l.length≤m.length
 | [],m,_,_=>Nat.zero_le _
 | x::l,m,nd,h=>by
   have hx:=h x List.mem_cons_self
   obtain ⟨n1,n2⟩:=List.nodup_cons.mp nd
   have:=ziI (l:=l) (m:=m.erase x) n2 fun y hy=>(List.mem_erase_of_ne (fun e=>n1 (by rw [←e];exact hy))).mpr (h y (List.mem_cons_of_mem _ hy))
   rw [List.length_erase_of_mem hx] at this
   have:=List.length_pos_of_mem hx
   rw [List.length_cons]
   omega
theorem zgm {k:Int}:∀ {ns:List Int},inV (.int k) (ns.map V.int)=decide (k∈ns)
 | []=>by simp [inV]
 | n::ns=>by
   have ih:=zgm (k:=k) (ns:=ns)
   unfold inV at ih ⊢
   rw [List.map_cons,List.any_cons,ih]
   by_cases e:k=n
   ·subst e
    simp [eqV]
   ·simp [eqV,e,Ne.symm e]
def tak {α:Type} (xs:List α) (P : α→Bool) (i:Nat):Bool:=match xs[i]? with
 | some x=>P x
 | none=>false
theorem zd6 {α:Type} (P : α→Bool) (g : α→V):∀xs:List α,((List.range xs.length).filter (tak xs P)).map (itm xs g)=(xs.filter P).map g
 | []=>rfl
 | x::xs=>by
   rw [List.length_cons,List.range_succ_eq_map,List.filter_cons,List.filter_map]
   have e1:(tak (x::xs) P ∘ Nat.succ)=tak xs P:=rfl
   have e2:∀l:List Nat,(l.map Nat.succ).map (itm (x::xs) g)=l.map (itm xs g):=fun l=>by
    rw [List.map_map]
    rfl
   rw [e1,List.filter_cons]
   have e3:tak (x::xs) P 0=P x:=rfl
   rw [e3]
   cases P x with
   | true=>
     rw [if_pos rfl,if_pos rfl,List.map_cons,List.map_cons,e2,zd6 P g xs]
     rfl
   | false=>
     rw [if_neg Bool.false_ne_true,if_neg Bool.false_ne_true,e2,zd6 P g xs]
def itl {α:Type} (xs:List α) (g : α→List V) (i:Nat):List V:=match xs[i]? with
 | some x=>g x
 | none=>[]
theorem zde {α:Type} (P : α→Bool) (g : α→List V):∀xs:List α,((List.range xs.length).filter (tak xs P)).map (itl xs g)=(xs.filter P).map g
 | []=>rfl
 | x::xs=>by
   rw [List.length_cons,List.range_succ_eq_map,List.filter_cons,List.filter_map]
   have e1:(tak (x::xs) P ∘ Nat.succ)=tak xs P:=rfl
   have e2:∀l:List Nat,(l.map Nat.succ).map (itl (x::xs) g)=l.map (itl xs g):=fun l=>by
    rw [List.map_map]
    rfl
   rw [e1,List.filter_cons]
   have e3:tak (x::xs) P 0=P x:=rfl
   rw [e3]
   cases P x with
   | true=>
     rw [if_pos rfl,if_pos rfl,List.map_cons,List.map_cons,e2,zde P g xs]
     rfl
   | false=>
     rw [if_neg Bool.false_ne_true,if_neg Bool.false_ne_true,e2,zde P g xs]
end L2
namespace L2
open PySem PySem.Spec PyProof.Rows
section
variable {X:Cx}
@[irreducible] def PAi (X:Cx) (es:List Expr) (t:TA):Prop:=PA X es t
theorem zb8:PAi X [] tNil:=by
 unfold PAi
 exact zae
theorem zal {e:Expr} {es:List Expr} {te:TE} {t:TA} (ha:PE X e te) (hr:PAi X es t) (hs:ziH e=false:=by rfl):PAi X (e::es) (zk6 te t):=by
 unfold PAi at *
 exact zjN ha hr hs
theorem pai {es:List Expr} {t:TA} (h:PAi X es t):PA X es t:=by
 unfold PAi at h
 exact h
end
end L2
namespace L2
open PySem PySem.Spec PyProof.Rows
def Walk (cs:List Cl) (r:Row):Prop:=∃b f,b∈cs∧f∈cs∧b.n≠f.n∧ahd f b (r.1-1)=true∧ahd b f r.1=true∧r.2.1=b.n∧r.2.2=f.n
structure Betw (cs:List Cl) (t u:Int) (rows:List Row):Prop where
 srt:rows.Pairwise fun r q=>rlt r q=true
 mem:∀r:Row,r∈rows↔(t<r.1∧r.1≤u)∧Walk cs r
end L2
namespace L2
open PySem
theorem ul1 {α:Type} {us:List α} (h:us.length=1):∃a1,us=[a1]:=by
 match us,h with
 | [a1],_=>exact ⟨a1,rfl⟩
theorem ul2 {α:Type} {us:List α} (h:us.length=2):∃a1 a2,us=[a1,a2]:=by
 match us,h with
 | [a1,a2],_=>exact ⟨a1,a2,rfl⟩
theorem ul3 {α:Type} {us:List α} (h:us.length=3):∃a1 a2 a3,us=[a1,a2,a3]:=by
 match us,h with
 | [a1,a2,a3],_=>exact ⟨a1,a2,a3,rfl⟩
theorem ul4 {α:Type} {us:List α} (h:us.length=4):∃a1 a2 a3 a4,us=[a1,a2,a3,a4]:=by
 match us,h with
 | [a1,a2,a3,a4],_=>exact ⟨a1,a2,a3,a4,rfl⟩
end L2
namespace L2
open PySem PySem.Spec PyProof.Rows
def Cl.at (d:Cl) (x:Int):Cl:=⟨d.n,d.wt,d.wb,d.st,d.sb,x⟩
def ovr (c d:Cl) (t:Int):Bool:=decide (0<gap d c t)
def abl (c d:Cl) (x u:Int):Bool:=ovr c (d.at x) x||ovr c (d.at x) u
inductive LastAt (c d:Cl) (b u:Int):V→Prop
 | no:(∀x,b≤x→x≤u→abl c d x u=false)→LastAt c d b u .non
 | at (r:Int):b≤r→r≤u→abl c d r u=true→(∀x,r<x→x≤u→abl c d x u=false)→LastAt c d b u (.int r)
section
variable {X:Cx}
end
end L2
namespace L2
open PySem PySem.Spec PyProof.Rows
def ziJ (J:It) (nk:Nat) (g:TG) (js:List Nat) (tc:TT) (te:TE) (σ:St) (H1:Hp) (Q:VK):Prop:=
 ∀D H2,Same H1 H2→H1 D=none→H2 D=some (.lst [])→∃W:Nat→Nat→List V→Hp→Prop,(∃m,W 0 m [] H2)∧∀i m acc H3,W i m acc H3→
  H3 D=some (.lst acc)∧acc.length<sizeLine∧((J.stop i H3∧Q (.ref D) H3)∨(J.go i H3∧∀os:St,os.length=nk→∀x H4,J.yld i H3 x H4→
   g x (os++caps σ js) H4 fun σ5 H5=>∃o5:St,o5.length=nk ∧ σ5=o5++caps σ js∧
   tc (o5++caps σ js) H5 fun b H5=>if b=true then te (o5++caps σ js) H5 fun v H6=>H6 D=some (.lst acc)∧
       ∀H7,(∀b o,b≠D→H6 b=some o→H7 b=some o)→H7 D=some (.lst (acc++[v]))→∃m',m'<m∧W (i+1) m' (acc++[v]) H7
    else ∃m',m'<m∧W (i+1) m' acc H5))
def zmv (wi:TI) (nk:Nat) (g:TG) (js:List Nat) (tc:TT) (te:TE):TE:=fun σ H Q=>wi σ H fun J H1=>ziJ J nk g js tc te σ H1 Q
structure CompScopeN (X:Cx) (scope:Scope) (nk:Nat) (N:List Str) (js:List Nat):Prop where
 kind:scope.kind=.function
 nocell:∀y∈scope.names,y.2≠.cell
 loc:∀y∈scope.names,y.2=.local→scope.names.lookup y.1=some .local
 own:∀(i:Nat) (x:Str),N[i]?=some x→i<nk→scope.names.lookup x=some .local
 free:∀y∈scope.names,y.2=.free→X.env.kindOf y.1=some .cell
 nd:N.Nodup
 len:N.length=js.length+nk
 apart:∀y,scope.names.lookup y=some .local→(y,NameKind.free)∉scope.names
 cap:∀(k j:Nat) (y:Str),N[k+nk]?=some y→js[k]?=some j→X.N[j]?=some y∧Vis X.env.scope y∧X.env.kindOf y=some .cell∧(y,NameKind.free)∈scope.names
theorem CompScopeN.of {X:Cx} {scope:Scope} {nk:Nat} {N:List Str} {js:List Nat} (c1:scope.kind=.function) (c2:(scope.names.all fun y=>y.2 != .cell)=true)
  (c3:(scope.names.all fun y=>y.2 != .local||scope.names.lookup y.1==some .local)=true) (c4:((N.take nk).all fun x=>scope.names.lookup x==some .local)=true) (c5:(scope.names.all fun y=>y.2 != .free||X.env.kindOf y.1==some .cell)=true)
  (nd:N.Nodup) (len:N.length=js.length+nk) (c6:(scope.names.all fun y=>y.2 != .free||scope.names.lookup y.1 != some .local)=true)
  (c7:(((N.drop nk).zip js).all fun p=>X.N[p.2]?==some p.1&&X.env.scope.names.lookup p.1==some .cell&&scope.names.contains (p.1,NameKind.free))=true):CompScopeN X scope nk N js where
 kind:=c1
 nocell:=fun y hy e=>by
  have:=List.all_eq_true.mp c2 y hy
  rw [e] at this
  exact absurd this (by decide)
 loc:=fun y hy e=>by
  have:=List.all_eq_true.mp c3 y hy
  rw [e] at this
  simpa using this
 own:=fun i x e h=>by
  have m:x∈N.take nk:=List.mem_of_getElem? (i:=i) (by rw [List.getElem?_take,if_pos h];exact e)
  simpa using List.all_eq_true.mp c4 x m
 free:=fun y hy e=>by
  have:=List.all_eq_true.mp c5 y hy
  rw [e] at this
  simpa using this
 nd:=nd
 len:=len
 apart:=fun y hl hm=>by
  have:=List.all_eq_true.mp c6 _ hm
  rw [hl] at this
  simp at this
 cap:=fun k j y h1 h2=>by
  have hz:((N.drop nk).zip js)[k]?=some (y,j):=by
   rw [List.getElem?_zip_eq_some]
   exact ⟨by rw [List.getElem?_drop,Nat.add_comm];exact h1,h2⟩
  have:=List.all_eq_true.mp c7 _ (List.mem_of_getElem? hz)
  simp only [Bool.and_eq_true,beq_iff_eq] at this
  obtain ⟨⟨a,b⟩,c⟩:=this
  exact ⟨a,.inr (.inl b),b,by simpa using c⟩
theorem zjO {X:Cx} {iter elt tg:Expr} {nk:Nat} {g:TG} {y:Str} {i:Nat} {py spos:Pos} {ifs:List Expr} {scope:Scope} {pos:Pos} {wi:TI} {N:List Str} {js:List Nat} {tc:TT} {te:TE}
  (hN:X.N.Nodup) (hiN:X.N[i]?=some y) (hyl:X.env.scope.names.lookup y=some .local)
  (hc:X.calm=true) (S:CompScopeN X scope nk N js) (hg:∀cl C s₀ H₀ ex,(∀(i:Nat) (x:Str) (px:Pos),N[i]?=some x→i<nk→PG (zaz X N scope cl C s₀ H₀ ex) (.Name x px) (zeQ i))→PG (zaz X N scope cl C s₀ H₀ ex) tg g) (hi:PI X tg iter wi)
  (ht:∀cl C s₀ H₀ ex,zfF (zaz X N scope cl C s₀ H₀ ex) ifs tc) (he:∀cl C s₀ H₀ ex,PE (zaz X N scope cl C s₀ H₀ ex) elt te)
  (hsw:swapsWith (.ListComp elt [⟨tg,iter,ifs,0⟩] scope pos) (some (.Name y py)) spos.line X.env=pure true:=by rfl)
  (hs:∀x,foldedSetIterable iter X.env x=pure x:=by intro _;rfl):
  PS X (.Assign [.Name y py] (.ListComp elt [⟨tg,iter,ifs,0⟩] scope pos) spos) (tAsg (zmv wi nk g js tc te) (zeQ i)):=by
 with_unfolding_all
  intro pins s σ H DD I h
  have hcells:∀y∈scope.names,y.2=.free→∃c,X.env.cells.lookup y.1=some c:=fun y hy hf=>I.ok.has y.1 (.inl (S.free y hy hf))
  obtain ⟨cl,ecl,cl1,cl2⟩:=zdb hcells
  rw [exec_Assign_Name_used _ _ _ _ hsw]
  refine wpAny_bind (wpAny_standAt (wpAny_bind ?_))
  show wpAny _ X.A (do let _ ←comprehension (.ListComp elt [⟨tg,iter,ifs,0⟩] scope pos) scope X.env _ (newList []) false (eval iter X.env) (some (assign (.Name y py) X.env))) _ _ s
  refine wpAny_bind (wpAny_mono (wpAny_comprehension_free (use:=some (assign (.Name y py) X.env)) (Q:=fun _ s'=>SP X pins DD .next s') rfl hs ecl S.kind S.loc (thn (hi pins s σ H _ I h) fun v s1 h1=>thn h1 fun itv s2 h2=>?_)) (fun _ s' hq=>wpAny_pure (wpAny_pure hq)) fun _ _ e=>e)
  obtain ⟨it,fp,tn,J,H2,e,I2,T,st2,f2,q2⟩:=h2
  subst e
  refine wpAny_newObj_type (wpAny_newFunctionEnv S.nocell (by intro y hy;simp at hy) (fun h₁ hns₁ hsb₁=>?_) S.kind)
  dsimp only at hns₁ hsb₁ ⊢
  generalize hP2:s2.heap.push { cls:=.type "list",dict:=none,data:=.seq ([]:List Value).toArray }=P2 at hns₁ hsb₁ ⊢
  have hC:P2.objs.size=s2.heap.objs.size+1:=by rw [←hP2,Heap.size_push]
  have below:∀b,b<s2.heap.objs.size→b≠P2.objs.size∧b≠s2.heap.objs.size:=fun b hb=>⟨by rw [hC];exact Nat.ne_of_lt (Nat.lt_succ_of_lt hb),Nat.ne_of_lt hb⟩
  have hDC:s2.heap.objs.size≠P2.objs.size:=by rw [hC];exact Nat.ne_of_lt (Nat.lt_succ_self _)
  have old:∀b o,s2.heap.get? b=some o→h₁.get? b=some o:=fun b o e=>hsb₁.extBut b o (below b (Heap.lt_size e)).1 (Heap.get?_push_of_some _ (hP2▸Heap.get?_push_of_some _ e))
  have hD:h₁.get? s2.heap.objs.size=some { cls:=.type "list",dict:=none,data:=.seq ([]:List Value).toArray }:=hsb₁.extBut _ _ hDC (Heap.get?_push_of_some _ (hP2▸Heap.get?_push_size _ rfl))
  have hDn:H2 s2.heap.objs.size=none:=I2.hok.fresh (Nat.le_refl _)
  have hCn:H2 P2.objs.size=none:=I2.hok.fresh (by rw [hC];exact Nat.le_succ _)
  obtain ⟨W,⟨m0,w0⟩,turn⟩:=q2 s2.heap.objs.size _ (zby hDn (.lst [])) hDn zar
  have fpl:∀b∈fp,b<s2.heap.objs.size:=fun b hb=>by
   obtain ⟨o,e,_⟩:=T.obj 0 _ st2 b hb
   exact Heap.lt_size e
  have yok:(zaz X N scope cl P2.objs.size s2 H2 fp).Ok:=
   { mod:=I2.ok.mod
     kind:=S.kind
     glob:=I2.ok.glob
     blt:=I2.ok.blt
     above:=by show s2.heap.objs.size≤P2.objs.size;rw [hC];exact Nat.le_succ _
     inj:=fun y z c h1 h2=>I2.ok.inj y z c (cl1 y c h1) (cl1 z c h2)
     has:=fun y hy=>by
      have hy':(y,NameKind.free)∈scope.names:=by
       rcases hy with hy | hy
       ·exact zbx (env:=X.env) hy (.inl rfl) S.nocell
       ·exact zbx (env:=X.env) hy (.inr rfl) S.nocell
      exact cl2 y hy'
     cab:=fun y c hf _=>by cases hf
     hd:=fun hc'=>I2.ok.hd hc'
     frames:=I2.ok.frames
     stk:=.inl rfl
     exf:=fun b hb=>⟨(below b (fpl b hb)).1,fun y c e=>(f2 b hb).2.2.2.2.1 y c (cl1 y c e)⟩
     bs:=I2.bs
     bsz:=Nat.le_trans I2.ok.bsz I2.sz
     noex:=fun b o e hb=>by
      rcases (f2 b hb).2.2.2.1 with z | z
      ·exact I2.ok.noex b o e z
      ·exact absurd (Nat.lt_of_lt_of_le (Nat.lt_of_lt_of_le (Heap.lt_size e) I2.ok.bsz) z) (Nat.lt_irrefl _)
     exfs:=fun b hb hf=>by
      rcases List.mem_cons.mp (I2.stkSub b hf) with z | z
      ·exact (f2 b hb).2.1 z
      ·exact (f2 b hb).2.2.1 z
     funs:=I2.stack
     frf:=I2.stkFree }
  have hokD:HOk X.prog X.w (upd H2 s2.heap.objs.size (.lst [])) h₁:=I2.hok.laid old (Nat.le_refl _) ⟨Nat.zero_le _,[],0,.nil,hD⟩
  have I3:Inv (zaz X N scope cl P2.objs.size s2 H2 fp) [] (List.replicate nk none++caps σ js) (upd H2 s2.heap.objs.size (.lst [])) { s2 with heap:=h₁,toks:=s2.toks+([]:List (Str × Value)).length }:=
   { ok:=yok
     os:=rfl
     bare:=I2.bare
     base:=Un.laid old (Nat.le_refl _) hDn
     loc:=by
      refine ⟨_,hns₁,fun i y v e1 e2 e3=>?_⟩
      by_cases ik:i<nk
      ·rw [List.getElem?_append_left (by simpa using ik),List.getElem?_replicate,if_pos ik] at e2
       cases e2
      ·obtain ⟨k,rfl⟩:∃k,i=k+nk:=⟨i-nk,by omega⟩
       have e2':(caps σ js)[k]?=some (some v):=by
        rw [List.getElem?_append_right (by simp)] at e2
        simpa using e2
       unfold caps at e2'
       rw [List.getElem?_map] at e2'
       cases ej:js[k]? with
       | none=>rw [ej] at e2';cases e2'
       | some j=>
         rw [ej] at e2'
         have e4:(σ[j]?).join=some v:=Option.some.inj e2'
         have e5 : σ[j]?=some (some v):=by
          cases eσ : σ[j]? with
          | none=>rw [eσ] at e4;cases e4
          | some o=>rw [eσ] at e4;exact congrArg some e4
         obtain ⟨n1,n2,n3,n4⟩:=S.cap k j y e1 ej
         obtain ⟨mX,_,lX⟩:=I2.loc
         obtain ⟨u,ru,lk⟩:=lX j y v n1 e5 n2
         refine ⟨u,ru,?_⟩
         rcases lk with ⟨lk,_⟩ | ⟨_,c,ec,cell⟩
         ·rw [n3] at lk;cases lk
         ·obtain ⟨c',ec'⟩:=cl2 y n4
          have:c'=c:=Option.some.inj ((cl1 y c' ec').symm.trans ec)
          subst this
          obtain ⟨o,ho,hd⟩:=cell
          refine .inr ⟨?_,c',ec',⟨o,old _ _ ho,hd⟩⟩
          have e3':(relabel scope X.env).names.lookup y=some .local∨(relabel scope X.env).names.lookup y=some .cell∨(relabel scope X.env).names.lookup y=some .free:=e3
          rcases e3' with z | z | z
          ·exfalso
           have hm:=PySem.mem_of_lookup z
           obtain ⟨⟨n,k'⟩,hn,e⟩:=List.mem_map.mp hm
           dsimp only at e
           by_cases cc:(k'==NameKind.free&&X.env.scope.kind==.function&&X.env.kindOf n==some .cell)=true
           ·rw [if_pos cc] at e
            cases e
           ·rw [if_neg cc] at e
            cases e
            have l1:=S.loc _ hn rfl
            have l2:=lookup_relabel_local (env:=X.env) l1
            have f1:=S.free _ n4 rfl
            exact S.apart y l1 n4
          ·exact .inl z
          ·exact .inr z
     cell:=fun y c e=>by
      obtain ⟨v,o,ho,hd⟩:=I2.cell y c (cl1 y c e)
      exact ⟨v,o,old _ _ ho,hd⟩
     free:=by show upd H2 s2.heap.objs.size (.lst []) P2.objs.size=none;rw [zap (Ne.symm hDC)];exact hCn
     freeC:=fun y c e=>by
      obtain ⟨v,o,ho,hd⟩:=I2.cell y c (cl1 y c e)
      rw [zap (below c (Heap.lt_size ho)).2]
      exact I2.freeC y c (cl1 y c e)
     pin:=fun p hp=>by simp at hp
     hok:=hokD
     len:=by show (List.replicate nk none++caps σ js).length=N.length;rw [S.len];simp [caps,Nat.add_comm] }
  have st3:tn 0 h₁:=T.keep 0 _ _ st2 fun b _ o e=>old b o e
  have fr3:∀b∈fp,(upd H2 s2.heap.objs.size (.lst [])) b=none:=fun b hb=>by
   rw [zap (below b (fpl b hb)).2]
   exact (f2 b hb).1
  have stat:∀ {H':Hp},(∀b∈fp,H' b=none)→∀b∈fp,FpOk (zaz X N scope cl P2.objs.size s2 H2 fp) [] H' b:=fun hn b hb=>
   ⟨hn b hb,(below b (fpl b hb)).1,yok.exfs b hb,.inl hb,fun y c e=>(f2 b hb).2.2.2.2.1 y c (cl1 y c e),fun p hp=>by simp at hp⟩
  have pgn:PG (zaz X N scope cl P2.objs.size s2 H2 fp) tg g:=hg cl _ s2 H2 fp fun i x px e1 e2=>zaO S.nd e1 (.inl (lookup_relabel_local (S.own i x e1 e2))) (.inr (lookup_relabel_local (S.own i x e1 e2)))
  have loop:∀s₃:Shared,s₃ = { s2 with heap:=h₁,toks:=s2.toks+([]:List (Str × Value)).length }→
    codeAny (model X.prog X.w) X.A (.compLoop (.ListComp elt [⟨tg,iter,ifs,0⟩] scope pos) 0 (.ref it) (.ref s2.heap.objs.size) (compEnvC scope cl P2.objs.size X.env))
     (compPost (model X.prog X.w) X.A X.xe (some (assign (.Name y py) X.env)) (fun _ s'=>SP X pins DD .next s') (.ref s2.heap.objs.size) P2.objs.size) s₃:=by
   rintro s₃ rfl
   refine codeAny_loop rfl (fun n s'=>∃i,∃o:St,∃acc H',o.length=nk∧Inv (zaz X N scope cl P2.objs.size s2 H2 fp) [] (o++caps σ js) H' s'∧tn i s'.heap∧(∀b∈fp,H' b=none)∧W i n acc H') ?_ m0 ⟨0,List.replicate nk none,[],_,List.length_replicate,I3,st3,fr3,w0⟩
   rintro n s4 ⟨i,o,acc,H4,ol,I4,st4,fr4,w4⟩
   show wpAny _ X.A ((compTurn (.ListComp elt [⟨tg,iter,ifs,0⟩] scope pos) 0 (.ref it) (.ref s2.heap.objs.size) (compEnvC scope cl P2.objs.size X.env)).onRaise (fun x=>do noteFrame x (compEnvC scope cl P2.objs.size X.env);theTreesLotGoes x)) _ _ s4
   refine wpAny_noted ?_
   rw [compTurn_list]
   refine wpAny_bind (wpAny_standAt (wpAny_bind ?_))
   obtain ⟨hD4,hz4,alt⟩:=turn i n acc H4 w4
   rcases alt with ⟨stop,qn⟩ | ⟨go,step⟩
   ·refine thn (T.done (zaz X N scope cl P2.objs.size s2 H2 fp) rfl rfl rfl hc i [] s4 _ H4 _ I4 (stat fr4) st4 stop) fun r s5 ⟨hr,I5⟩=>?_
    subst hr
    refine wpAny_pure ?_
    obtain ⟨m5,n5,_⟩:=I5.loc
    have u5:=I5.base
    have nC:∀b o,s2.heap.get? b=some o→b≠P2.objs.size:=fun b o e=>(below b (Heap.lt_size e)).1
    have IX:Inv X pins σ H4 s5:=by
     refine I2.call' (s':=s5) (ch:=fp) I5.os ?_ I5.hok I5.bare fun b hb=>⟨(f2 b hb).2.2.2.1,(f2 b hb).2.1,(f2 b hb).2.2.2.2.1,(f2 b hb).2.2.2.2.2⟩
     exact ⟨u5.keep,u5.slot,u5.free,u5.there,u5.tups,u5.frzs,u5.tbls⟩
    obtain ⟨g0,g1,g2,g3,g4,g5⟩:=I2.fpOk (b:=P2.objs.size) (H':=H4) (by rw [hC];exact Nat.le_succ _) I5.free
    refine wpAny_assign_Name (zdR IX hN hiN (.inl hyl) (v:=.ref s2.heap.objs.size) rfl (fun s6 I6 ⟨aa,sb6,ha⟩=>?_) (.inr hyl))
    have hCa:P2.objs.size≠aa:=by
     rcases ha with rfl | ha
     ·exact g1
     ·exact fun z=>g4 _ _ ha z.symm
    refine ⟨m5,n5.sameBut sb6 hCa,fun h' sb=>⟨_,H4,?_,qn⟩⟩
    exact I6.turned (t':=s6.toks) (fun b o hb e=>sb.extBut b o hb e) g0 g1 g3 g4 g5
   ·refine thn (T.item (zaz X N scope cl P2.objs.size s2 H2 fp) rfl rfl rfl hc i [] s4 _ H4 _ I4 (stat fr4) st4 go) fun r s5 ⟨u,hr,h5⟩=>?_
    subst hr
    refine wpAny_bind (thn h5 fun _ s6 ⟨y,H6,I6,r6,y6,st6,fr6⟩=>?_)
    have I6':=I6.pinned (stat fr6) (T.obj _ _ st6)
    refine wpAny_bind (wpAny_mono (pgn _ s6 (o++caps σ js) H6 y u _ I6' r6 (step o ol y _ y6)) (fun _ s7 ⟨σ7,H7,I7,o7,l7,e7,q7⟩=>?_) fun _ _ z=>z.elim)
    subst e7
    have back:∀ {s9:Shared} {H9:Hp} {acc9:List V} {m9:Nat},Inv (zaz X N scope cl P2.objs.size s2 H2 fp) ([]++zdT fp s6.heap) (o7++caps σ js) H9 s9→m9<n→W (i+1) m9 acc9 H9→
      ∃m,m<n∧∃i,∃o:St,∃acc H',o.length=nk∧Inv (zaz X N scope cl P2.objs.size s2 H2 fp) [] (o++caps σ js) H' s9∧tn i s9.heap∧(∀b∈fp,H' b=none)∧W i m acc H':=fun {s9 H9 acc9 m9} I9 hm w9=>by
     refine ⟨m9,hm,i+1,o7,acc9,H9,l7,I9.unpinned,T.keep _ _ _ st6 fun b hb o e=>(I9.pin (b,o) (List.mem_append_right _ (List.mem_append_right _ (zbw hb e)))).1,fun b hb=>?_,w9⟩
     obtain ⟨o,e,d⟩:=T.obj _ _ st6 b hb
     exact (I9.pin (b,o) (List.mem_append_right _ (List.mem_append_right _ (zbw hb e)))).2.1
    refine wpAny_bind (wpAny_mono (ht cl _ s2 H2 fp _ s7 _ _ _ I7 q7) (fun ok s8 ⟨H8,I8,q8⟩=>?_) fun _ _ z=>z.elim)
    cases ok with
    | false=>
      obtain ⟨m9,hm,w9⟩:=q8
      exact wpAny_pure ⟨rfl,back I8 hm w9⟩
    | true=>
      refine wpAny_bind (wpAny_bind (wpAny_mono (he cl _ s2 H2 fp _ s8 _ _ _ I8 q8) (fun xv s9 ⟨v9,H9,I9,r9,hD9,q9⟩=>?_) fun _ _ z=>z.elim))
      refine wpAny_bind (wpAny_mono (zcZ (X:=zaz X N scope cl P2.objs.size s2 H2 fp) _ s9 _ H9 (.ref s2.heap.objs.size) [v9] (.ref s2.heap.objs.size) [xv] (fun _ H'=>H'=upd H9 s2.heap.objs.size (.lst (acc++[v9]))) I9 rfl (.cons r9 .nil) ⟨_,acc,v9,rfl,rfl,hD9,hz4,rfl⟩) (fun _ s10 ⟨v10,H10,I10,_,e10⟩=>?_) fun _ _ z=>z.elim)
      subst e10
      obtain ⟨m9,hm,w9⟩:=q9 _ (fun b o hb e=>by rw [zap hb];exact e) zar
      exact wpAny_pure (wpAny_pure ⟨rfl,back I10 hm w9⟩)
  exact codeAny_compStart_list (loop _ rfl) (T.self _ 0 _ _ _ st3 (loop _ rfl))
end L2
namespace L2
open PySem PySem.Spec PyProof.Rows
section
variable {X:Cx}
theorem zmw (hu:X.A.units<cLine):OpR X (compareOp .NotEq) (fun x y H Q=>∃a b xs,x=.ref a∧y=.ref b∧SqL X.K H a xs∧SqL X.K H b []∧Q (.bl (!xs.isEmpty)) H):=by
 intro pins s σ H x y v u Q I rx ry h
 obtain ⟨a,b,xs,rfl,rfl,hx,hy,q⟩:=h
 cases xs with
 | nil=>exact zim hu pins s σ H _ _ v u Q I rx ry ⟨a,b,[],[],rfl,rfl,hx,hy,rfl,rfl,q⟩
 | cons z zs=>
   cases rx
   cases ry
   obtain ⟨its,r,pl,hz⟩:=I.list hx
   obtain ⟨its2,r2,pl2,hz2⟩:=I.list hy
   have e1:its.toArray.size=zs.length+1:=by simp [←r.length]
   have e2:its2.toArray.size=0:=by simp [←r2.length]
   refine SeqAt.RcNeAt.lists_lengths pl.isList pl2.isList ?_ hu X.prog X.w X.xe _ ⟨.bl _,H,I,rfl,q⟩
   rw [e1,e2]
   simp
end
theorem zhE {K:PySem.W.Frag} {a:Addr} {xs:List V} {nk:Nat} {g:TG} {js:List Nat} {tc:TT} {te:TE} {σ:St} {H1:Hp} {Q:VK} (o:Nat→St) (p:Nat→Bool) (f:Nat→List V) (hl:SqL K H1 a xs) (ho:∀i,(o i).length=nk)
  (hg:∀i x Hh os (R:St→Hp→Prop),xs[i]?=some x→Same H1 Hh→os.length=nk→R (o i++caps σ js) Hh→g x (os++caps σ js) Hh R)
  (ht:∀i x Hh (Q':Bool→Hp→Prop),xs[i]?=some x→Same H1 Hh→(∀Hh',Same Hh Hh'→Q' (p i) Hh')→tc (o i++caps σ js) Hh Q')
  (he:∀i x Hh (Q':VK),xs[i]?=some x→p i=true→Same H1 Hh→(∀b Hh',Same Hh Hh'→Hh' b=some (.tup (f i))→Q' (.ref b) Hh')→te (o i++caps σ js) Hh Q')
  (hz:xs.length<sizeLine) (q:∀D H2 (bs:List (Addr × List V)),Same H1 H2→H1 D=none→H2 D=some (.lst (bs.map fun b=>V.ref b.1))→bs.map (·.2)=((List.range xs.length).filter p).map f→(∀b,b∈bs→H2 b.1=some (.tup b.2))→Q (.ref D) H2):
  ziJ (Itl K a) nk g js tc te σ H1 Q:=by
 intro D H2 s2 hD h2
 refine ⟨fun i m acc H3=>m=xs.length-i∧i≤xs.length∧∃bs:List (Addr × List V),acc=(bs.map fun b=>V.ref b.1)∧bs.map (·.2)=((List.range i).filter p).map f∧(∀b,b∈bs→H3 b.1=some (.tup b.2))∧Same H1 H3∧H3 D=some (.lst acc),⟨_,rfl,Nat.zero_le _,[],rfl,by simp,fun b hb=>by simp at hb,s2,h2⟩,?_⟩
 rintro i m acc H3 ⟨rfl,hi,bs,ea,eb,hb,s3,h3⟩
 have hl3:SqL K H3 a xs:=s3.seq hl
 have hll:acc.length≤xs.length:=by
  have e:=congrArg List.length eb
  rw [List.length_map,List.length_map] at e
  rw [ea,List.length_map,e]
  refine Nat.le_trans (List.length_filter_le _ _) ?_
  rw [List.length_range]
  exact hi
 refine ⟨h3,by omega,?_⟩
 by_cases hlt:i<xs.length
 ·have hx:xs[i]?=some xs[i]:=List.getElem?_eq_getElem hlt
  refine .inr ⟨⟨xs,_,hl3,hx⟩,fun os ol y H4 z=>?_⟩
  obtain ⟨e,ey⟩:=z
  have ey2:=ey xs hl3
  subst e
  refine hg i y _ os _ ey2 s3 ol ⟨o i,ho i,rfl,?_⟩
  refine ht i y _ _ ey2 s3 fun H5 s5=>?_
  have h5:=s5 _ _ h3
  have s35:=s3.trans s5
  have tk:(List.range (i+1)).filter p=(List.range i).filter p++(if p i=true then [i] else []):=by
   rw [List.range_succ,List.filter_append]
   congr 1
   cases h:p i<;>simp [h]
  cases hp:p i with
  | true=>
    refine iteT (he i y _ _ ey2 hp s35 fun b6 H6 s6 g6=>⟨s6 _ _ h5,fun H7 k7 h7=>⟨xs.length-(i+1),by omega,rfl,hlt,bs++[(b6,f i)],?_,?_,fun b hb'=>?_,fun b o e=>?_,h7⟩⟩)
    ·rw [ea,List.map_append]
     rfl
    ·rw [List.map_append,eb,tk,hp,if_pos rfl,List.map_append]
     rfl
    ·have nD:∀c t,H6 c=some (.tup t)→c≠D:=fun c t g z=>by
      rw [z,s6 _ _ h5] at g
      cases g
     rcases List.mem_append.mp hb' with h | h
     ·have g:=s6 _ _ (s5 _ _ (hb b h))
      exact k7 _ _ (nD _ _ g) g
     ·have:b=(b6,f i):=by simpa using h
      subst this
      exact k7 _ _ (nD _ _ g6) g6
    ·by_cases hbD:b=D
     ·subst hbD
      rw [hD] at e
      cases e
     ·exact k7 b o hbD (s6 b o (s35 b o e))
  | false=>
    refine iteF ⟨xs.length-(i+1),by omega,rfl,hlt,bs,ea,?_,fun b hb'=>s5 _ _ (hb b hb'),s35,h5⟩
    rw [tk,hp,if_neg Bool.false_ne_true,List.append_nil]
    exact eb
 ·have e:i=xs.length:=by omega
  subst e
  refine .inl ⟨⟨xs,hl3,Nat.le_refl _⟩,?_⟩
  rw [ea] at h3
  exact q D _ bs s3 hD h3 eb hb
def sts {α:Type} (k:Nat) (xs:List α) (g : α→List V) (i:Nat):St:=match xs[i]? with
 | some x=>(g x).map some
 | none=>List.replicate k none
theorem zlp {α:Type} {k:Nat} {xs:List α} {g : α→List V} (h:∀x,(g x).length=k) (i:Nat):(sts k xs g i).length=k:=by
 unfold sts
 cases xs[i]? with
 | none=>exact List.length_replicate
 | some x=>show ((g x).map some).length=k;rw [List.length_map];exact h x
theorem len2 {os:St} (h:os.length=2):∃a b,os=[a,b]:=by
 match os,h with
 | [a,b],_=>exact ⟨a,b,rfl⟩
end L2
namespace L2
open PySem PySem.Spec PyProof.Rows
section
variable {pg:Program} {wd:World} {Ar:Around} {Rs:Result→Shared→Prop} {It:Addr} {fp wr:List Addr} {n:Nat} {Pv:Nat→Value→Prop} {Sv:Nat→Heap→Prop}
end
section
variable {X:Cx}
end
end L2
namespace L2
open PySem PySem.Spec PyProof.Rows
structure IsPrs (H:Hp) (l:Addr) (rs:List (Addr × Row)):Prop where
 at_:H l=some (.lst (rs.map fun r=>V.ref r.1))
 rw:∀r,r∈rs→H r.1=some (.tup [.int r.2.2.1,.int r.2.2.2])
end L2
namespace L2
open PySem PySem.Spec PyProof.Rows
theorem ziK {X:Cx} (hu:X.A.units<cLine):OpR X (compareOp .NotEq) (fun x y H Q=>∃a b xs ys,x=.ref a∧y=.ref b∧SqT X.K H a xs∧SqT X.K H b ys∧xs.all zcL=true∧ys.all zcL=true∧Q (.bl (!eqVs xs ys)) H):=by
 intro pins s σ H x y v u Q I rx ry h
 obtain ⟨a,b,xs,ys,rfl,rfl,hx,hy,fx,fy,q⟩:=h
 cases rx
 cases ry
 obtain ⟨its,r,pl,hz⟩:=I.tuple hx
 obtain ⟨its2,r2,pl2,hz2⟩:=I.tuple hy
 refine SeqAt.RcNeAt.tuples (s:=s) (e:=eqJ xs ys) pl pl2 hu (fun j h1 h2=>zky r r2 fx fy j h1 h2) X.prog X.w X.xe _ ⟨.bl _,H,I,rfl,?_⟩
 have e1:its.toArray.size=xs.length:=by simp [r.length]
 have e2:its2.toArray.size=ys.length:=by simp [r2.length]
 rw [e1,e2,zdZ]
 exact q
structure IsCh (K:PySem.W.Frag) (H:Hp) (p:Addr) (x:Cl × Int):Prop where
 ex:∃pc,H p=some (.tup [.ref pc,.int x.2])∧IsCl K H pc x.1
theorem IsCh.same {K:PySem.W.Frag} {H H':Hp} {p:Addr} {x:Cl × Int} (s:Same H H') (h:IsCh K H p x):IsCh K H' p x:=let ⟨pc,a,b⟩:=h.ex;⟨pc,s _ _ a,b.same s⟩
theorem IsCh.but {K:PySem.W.Frag} {H H':Hp} {p q:Addr} {x:Cl × Int} {xs:List V} (s:But q H H') (hq:H q=some (.lst xs)) (h:IsCh K H p x):IsCh K H' p x:=by
 obtain ⟨pc,a,b⟩:=h.ex
 exact ⟨pc,s _ _ (fun z=>by rw [z,hq] at a;cases a) a,b.but s hq⟩
structure IsChs (K:PySem.W.Frag) (H:Hp) (l:Addr) (xs:List (Addr × Cl × Int)):Prop where
 at_:H l=some (.lst (xs.map fun q=>V.ref q.1))
 ch:∀q,q∈xs→IsCh K H q.1 q.2
theorem IsChs.same {K:PySem.W.Frag} {H H':Hp} {l:Addr} {xs:List (Addr × Cl × Int)} (s:Same H H') (h:IsChs K H l xs):IsChs K H' l xs:=⟨s _ _ h.at_,fun q hq=>(h.ch q hq).same s⟩
theorem IsChs.but {K:PySem.W.Frag} {H H':Hp} {l a:Addr} {xs:List (Addr × Cl × Int)} {ys:List V} (s:But a H H') (ha:H a=some (.lst ys)) (ne:l≠a) (h:IsChs K H l xs):IsChs K H' l xs:=⟨s _ _ ne h.at_,fun q hq=>(h.ch q hq).but s ha⟩
def kcOf (H:Hp) (p:Addr):Addr:=match H p with
 | some (.tup (.ref pc::_))=>pc
 | _=>p
theorem IsCh.kc {K:PySem.W.Frag} {H:Hp} {p:Addr} {x:Cl × Int} (h:IsCh K H p x):H p=some (.tup [.ref (kcOf H p),.int x.2])∧IsCl K H (kcOf H p) x.1:=by
 obtain ⟨pc,a,b⟩:=h.ex
 have e:kcOf H p=pc:=by
  unfold kcOf
  rw [a]
 rw [e]
 exact ⟨a,b⟩
theorem zjP (ns:List Int) (lo hi:Option Int):∃ms:List Int,cutV (ns.map V.int) lo hi=ms.map V.int:=by
 unfold cutV
 refine ⟨(ns.drop (HT.sIx (ns.map V.int).length 0 lo)).take (HT.sIx (ns.map V.int).length (ns.map V.int).length hi-HT.sIx (ns.map V.int).length 0 lo),?_⟩
 rw [List.map_take,List.map_drop]
structure ChOk (B:Int) (x:Cl × Int):Prop where
 ok:x.1.Ok
 l0:0≤x.2
 l1:x.2≤12
 cm:x.1.came≤B
def zdD (c d:Cl):Bool:=decide (c.n=d.n∧c.came=d.came∧c.wt*d.wb=d.wt*c.wb∧c.st*d.sb=d.st*c.sb)
def easd (xs:List (Addr × Cl × Int)) (y:Cl × Int):Bool:=xs.any fun k=>zdD y.1 k.2.1&&decide (y.2≤k.2.2)
def eass (xs ys:List (Addr × Cl × Int)) (h h':Int):Bool:=decide (h≤h')&&ys.all fun y=>easd xs y.2
theorem ziL (x y:Int):decide (V.int (sg x y)=V.int 0)=decide (x=y):=by
 rw [decide_eq_decide]
 unfold sg
 constructor
 ·intro h
  have h:=V.int.inj h
  split at h
  ·cases h
  ·split at h
   ·cases h
   ·omega
 ·rintro rfl
  rw [if_neg (by omega),if_neg (by omega)]
end L2
namespace L2
open PySem PySem.Spec PyProof.Rows
theorem zdf {α:Type} (p : α→Bool):∀(L:List α) (h:Nat),(∀(j:Nat) a,L[j]?=some a→(p a=true↔j<h))→L.filter p=L.take h
 | [],h,_=>by simp
 | a::L,0,hp=>by
   have h0:=hp 0 a rfl
   rw [List.filter_cons,if_neg (fun z=>by have:=h0.mp z;omega),zdf p L 0 fun j b e=>?_]
   ·simp
   ·have:=hp (j+1) b e
    constructor
    ·intro z
     have:=this.mp z
     omega
    ·intro z
     omega
 | a::L,h+1,hp=>by
   have h0:=hp 0 a rfl
   rw [List.filter_cons,if_pos (h0.mpr (by omega)),List.take_succ_cons,zdf p L h fun j b e=>?_]
   have:=hp (j+1) b e
   constructor
   ·intro z
    have:=this.mp z
    omega
   ·intro z
    exact this.mpr (by omega)
def rnk (cs:List Cl) (t:Int) (c:Cl):Nat:=(cs.filter fun o=>decide (o.n≠c.n)&&ahd o c t).length
theorem zjQ {cs:List Cl} (g:Good cs) (t:Int):Good (ord cs t):=⟨fun c hc=>g.ok c ((zbI cs t).mem_iff.mp hc),((zbI cs t).map _).nodup_iff.mpr g.nd⟩
theorem zg5 {cs:List Cl} (g:Good cs) {t:Int} {j:Nat} {c:Cl} (h:(ord cs t)[j]?=some c):rnk cs t c=j:=by
 have jl:j<(ord cs t).length:=(List.getElem?_eq_some_iff.mp h).1
 have e:=zdf (fun o=>decide (o.n≠c.n)&&ahd o c t) (ord cs t) j fun i a hi=>by
  rw [Bool.and_eq_true,decide_eq_true_iff]
  constructor
  ·rintro ⟨n1,a1⟩
   rcases Nat.lt_trichotomy i j with z | z | z
   ·exact z
   ·subst z
    rw [h] at hi
    cases hi
    exact (n1 rfl).elim
   ·exact (zd2 a1 (zkD (zgj g t) hi h z)).elim
  ·intro z
   exact ⟨zmp (zjQ g t) hi h (by omega),zkD (zgj g t) h hi z⟩
 unfold rnk
 rw [←((zbI cs t).filter _).length_eq,e,List.length_take]
 omega
theorem zjR {cs:List Cl} (g:Good cs) (t:Int) {c:Cl} (hc:c∈cs):(ord cs t)[rnk cs t c]?=some c:=by
 obtain ⟨j,hj,ej⟩:=List.getElem_of_mem ((zbI cs t).mem_iff.mpr hc)
 have e:(ord cs t)[j]?=some c:=by rw [List.getElem?_eq_getElem hj,ej]
 rw [zg5 g e]
 exact e
structure RkD (cs:List Cl) (t:Int) (h i:Nat) (kvs:List (Key × V)):Prop where
 len:kvs.length=((cs.take i).filter fun c=>decide (rnk cs t c<h)).length
 val:∀(k:Nat) c,k<i→cs[k]?=some c→rnk cs t c<h→valV kvs (.inl (rnk cs t c:Int))=some (.int c.n)
 key:∀j:Key,valV kvs j≠none→∃(k:Nat) (c:Cl),k<i∧cs[k]?=some c∧j=.inl (rnk cs t c:Int)
def zaQ (ws:List Int) (x:Cl × Int):Int:=if x.1.n∈ws then x.2-1 else x.2
def behL (H:Hp) (ws:List Int) (xs:List (Addr × Cl × Int)):List (Addr × Cl × Int):=(xs.map fun k=>(kcOf H k.1,k.2.1,zaQ ws k.2)).filter fun k=>decide (0<k.2.2)
structure IsBh (H:Hp) (l:Addr) (ys:List (Addr × Cl × Int)) (bs:List (Addr × List V)):Prop where
 at_:H l=some (.lst (bs.map fun b=>V.ref b.1))
 rw:∀b,b∈bs→H b.1=some (.tup b.2)
 eq:bs.map (·.2)=ys.map fun k=>[V.ref k.1,V.int k.2.2]
theorem IsBh.same {H H':Hp} {l:Addr} {ys:List (Addr × Cl × Int)} {bs:List (Addr × List V)} (s:Same H H') (h:IsBh H l ys bs):IsBh H' l ys bs:=⟨s _ _ h.at_,fun b hb=>s _ _ (h.rw b hb),h.eq⟩
theorem IsBh.len {H:Hp} {l:Addr} {ys:List (Addr × Cl × Int)} {bs:List (Addr × List V)} (h:IsBh H l ys bs):bs.length=ys.length:=by
 have:=congrArg List.length h.eq
 rw [List.length_map,List.length_map] at this
 exact this
def zipB (bs:List (Addr × List V)) (ys:List (Addr × Cl × Int)):List (Addr × Cl × Int):=List.zipWith (fun b k=>(b.1,k.2)) bs ys
theorem IsBh.chs {K:PySem.W.Frag} {H:Hp} {l:Addr} {ys:List (Addr × Cl × Int)} {bs:List (Addr × List V)} (h:IsBh H l ys bs) (hc:∀k,k∈ys→IsCl K H k.1 k.2.1):
  IsChs K H l (zipB bs ys)∧(zipB bs ys).map (·.2)=ys.map (·.2):=by
 have hl:=h.len
 have e2:(zipB bs ys).map (·.2)=ys.map (·.2):=by
  unfold zipB
  rw [List.map_zipWith]
  refine List.ext_getElem (by simp [hl]) fun i h1 h2=>?_
  simp
 have e1:((zipB bs ys).map fun q=>V.ref q.1)=bs.map fun b=>V.ref b.1:=by
  unfold zipB
  rw [List.map_zipWith]
  refine List.ext_getElem (by simp [hl]) fun i h1 h2=>?_
  simp
 refine ⟨⟨by rw [e1];exact h.at_,fun q hq=>?_⟩,e2⟩
 obtain ⟨i,hi,ei⟩:=List.getElem_of_mem hq
 have hi2:i<bs.length∧i<ys.length:=by
  unfold zipB at hi
  rw [List.length_zipWith] at hi
  omega
 have eq:q=(bs[i].1,ys[i].2):=by
  have e3:(zipB bs ys)[i]?=some (bs[i].1,ys[i].2):=by
   unfold zipB
   rw [List.getElem?_zipWith,List.getElem?_eq_getElem hi2.1,List.getElem?_eq_getElem hi2.2]
  rw [List.getElem?_eq_getElem hi,ei] at e3
  exact Option.some.inj e3
 have eb:bs[i].2=[V.ref ys[i].1,V.int ys[i].2.2]:=by
  have:=congrArg (fun l:List (List V)=>l[i]?) h.eq
  simp [hi2.1,hi2.2] at this
  exact this
 have hb:=h.rw _ (List.getElem_mem hi2.1)
 rw [eb] at hb
 subst eq
 exact ⟨ys[i].1,hb,hc _ (List.getElem_mem hi2.2)⟩
end L2
namespace L2
open PySem PySem.Spec PyProof.Rows
theorem zkE {X:Cx} {K:PySem.W.Frag} (hK:X.K=K):OpR X (compareOp .In) (rIn K false):=hK▸zif
theorem Room.units1 {k:Nat} {A:Around} (r:Room k A):A.units+1<cLine:=by have:=r.un;omega
theorem zlq {K:PySem.W.Frag} {H H':Hp} {p:Addr} {x:Cl × Int} (h:IsCh K H p x) (s:Same H H'):kcOf H' p=kcOf H p:=by
 obtain ⟨pc,a,_⟩:=h.ex
 unfold kcOf
 rw [a,s _ _ a]
theorem ziM {K:PySem.W.Frag} {H H':Hp} {l:Addr} {xs:List (Addr × Cl × Int)} (h:IsChs K H l xs) (s:Same H H') (ws:List Int):behL H' ws xs=behL H ws xs:=by
 unfold behL
 congr 1
 exact List.map_congr_left fun k hk=>by rw [zlq (h.ch k hk) s]
def zd7 (t:Int) (k:Addr × Cl × Int):Bool:=decide (0<k.2.2)&&decide (k.2.1.came≤t)
def zcO (H:Hp) (t:Int) (xs:List (Addr × Cl × Int)):List (Addr × Cl):=(xs.filter (zd7 t)).map fun k=>(kcOf H k.1,k.2.1)
def csOf (t:Int) (xs:List (Addr × Cl × Int)):List Cl:=(xs.filter (zd7 t)).map (·.2.1)
theorem zfL (H:Hp) (t:Int) (xs:List (Addr × Cl × Int)):(zcO H t xs).map (·.2)=csOf t xs:=by
 unfold zcO csOf
 rw [List.map_map]
 rfl
def zdg (t:Int) (h:Nat) (xs:List (Addr × Cl × Int)):List Int:=((ord (csOf t xs) t).map (·.n)).take h
theorem ziN {t:Int} {xs:List (Addr × Cl × Int)} (ok:∀q,q∈xs→q.2.1.Ok) (nd:(xs.map (·.2.1.n)).Nodup):Good (csOf t xs):=by
 refine ⟨fun c hc=>?_,?_⟩
 ·obtain ⟨k,hk,rfl⟩:=List.mem_map.mp hc
  exact ok k (List.mem_filter.mp hk).1
 ·unfold csOf
  rw [List.map_map]
  exact nd.sublist (List.Sublist.map _ List.filter_sublist)
theorem zhF (H:Hp) (t:Int) (xs:List (Addr × Cl × Int)):(zcO H t xs).length≤xs.length:=by
 unfold zcO
 rw [List.length_map]
 exact List.length_filter_le _ _
theorem ziO {K:PySem.W.Frag} {H:Hp} {l:Addr} {xs:List (Addr × Cl × Int)} (h:IsChs K H l xs) (t:Int) {q:Addr × Cl} (hq:q∈zcO H t xs):IsCl K H q.1 q.2:=by
 obtain ⟨k,hk,rfl⟩:=List.mem_map.mp hq
 exact (h.ch k (List.mem_filter.mp hk).1).kc.2
theorem zgn (H:Hp) (t:Int) (xs:List (Addr × Cl × Int)):(zcO H t xs).map (fun q=>V.ref q.1)=(xs.filter (zd7 t)).map fun k=>V.ref (kcOf H k.1):=by
 unfold zcO
 rw [List.map_map]
 rfl
theorem zg6 {H:Hp} {ws:List Int} {xs:List (Addr × Cl × Int)} {k:Addr × Cl × Int} (h:k∈behL H ws xs):∃q,q∈xs∧k=(kcOf H q.1,q.2.1,zaQ ws q.2)∧0<zaQ ws q.2:=by
 obtain ⟨h1,h2⟩:=List.mem_filter.mp h
 obtain ⟨q,hq,rfl⟩:=List.mem_map.mp h1
 exact ⟨q,hq,rfl,of_decide_eq_true h2⟩
theorem zlr {H:Hp} {ws:List Int} {xs:List (Addr × Cl × Int)} (nd:(xs.map (·.2.1.n)).Nodup):((behL H ws xs).map (·.2.1.n)).Nodup:=by
 have e:((xs.map fun k=>(kcOf H k.1,k.2.1,zaQ ws k.2)).map (·.2.1.n))=xs.map (·.2.1.n):=by
  rw [List.map_map]
  rfl
 rw [←e] at nd
 exact nd.sublist (List.Sublist.map _ List.filter_sublist)
theorem zjS (H:Hp) (ws:List Int) (xs:List (Addr × Cl × Int)):(behL H ws xs).length≤xs.length:=by
 have:=List.length_filter_le (fun k:Addr × Cl × Int=>decide (0<k.2.2)) (xs.map fun k=>(kcOf H k.1,k.2.1,zaQ ws k.2))
 rw [List.length_map] at this
 exact this
end L2
namespace L2
open PySem PySem.Spec PyProof.Rows
def plV:List V→Bool
 | [_,.int i]=>decide (0<i)
 | _=>false
theorem znj {H:Hp} {ws:List Int} {xs:List (Addr × Cl × Int)} {bs:List (Addr × List V)} (eb:bs.map (·.2)=xs.map fun k=>[V.ref (kcOf H k.1),V.int (zaQ ws k.2)]):
  (bs.filter fun b=>plV b.2).map (·.2)=(behL H ws xs).map fun k=>[V.ref k.1,V.int k.2.2]:=by
 have e:(bs.filter fun b=>plV b.2).map (·.2)=(bs.map (·.2)).filter plV:=by
  rw [List.filter_map]
  rfl
 rw [e,eb,List.filter_map]
 unfold behL
 rw [List.filter_map,List.map_map]
 rfl
theorem zdQ {α:Type} (xs:List α):(xs.filter fun _=>true)=xs:=List.filter_eq_self.mpr fun _ _=>rfl
end L2
namespace L2
open PySem PySem.Spec PyProof.Rows
def znk (K:PySem.W.Frag):R2:=fun x y H Q=>∃l b xs zs,x=.ref l∧y=.ref b∧SqL K H l xs∧SqL K H b zs∧xs.length+zs.length≤sizeLine∧∀p H2,Same H H2→H p=none→H2 p=some (.lst (xs++zs))→Q (.ref p) H2
theorem zgo {X:Cx}:OpR X (binaryOp .Add) (znk X.K):=by
 intro pins s σ H x y v u Q I rx ry h
 obtain ⟨l,b,xs,zs,rfl,rfl,hx,hy,hz,q⟩:=h
 cases rx
 cases ry
 obtain ⟨its,r,p1,z1⟩:=I.list hx
 obtain ⟨jts,r2,p2,z2⟩:=I.list hy
 obtain ⟨⟨c1,d1,t1,f1⟩,g1,e1,n1,k1⟩:=p1.isList
 obtain ⟨⟨c2,d2,t2,f2⟩,g2,e2,n2,k2⟩:=p2.isList
 simp only at e1 k1 e2 k2
 subst e1 k1 e2 k2
 have ea:its.toArray++jts.toArray=(its++jts).toArray:=by simp
 have l1:=r.length
 have l2:=r2.length
 refine concat_meets ⟨_,g1,rfl⟩ ⟨_,g2,rfl⟩ noFill_list_add seq_list_add F.slot_list_add F.entry_list_add (F.args_list_add_2 _ _) (list_addW l b its.toArray jts.toArray n1 n2 d1 d2 f1 f2 (by rw [List.size_toArray,List.size_toArray];omega)) ⟨g1,g2,?_⟩
 rw [ea]
 exact ⟨.ref _,_,I.lnew (t':=s.toks) (r.append r2) (by rw [List.length_append];omega),rfl,q _ _ (zby I.fresh _) I.fresh zar⟩
end L2
namespace L2
open PySem PySem.Spec PyProof.Rows
structure FunD (K:PySem.W.Frag) (x qual:Str) (st:Stmt) (f:Addr) (fd:FuncData):Prop where
 ex:∃(oc:Value) (od:Option Addr) (T:Addr) (kV doc pm:Value) (an:Option Addr) (cdv ct:Value) (osl:Array (Option Value)) (o:Obj) (n:Nat),
  fd=PySem.W.fnOf x qual (zak st) (zag st) (zac st) (.ref T) kV doc pm an cdv ct∧K.lookup f=some ⟨oc,od,.func fd,osl⟩∧PySem.W.codeIn K cdv qual=true∧K.lookup T=some o∧o.data=.seq #[.none] n
 kp:PySem.W.keepIn K (.ref f)=true
theorem zls {K:PySem.W.Frag} {x qual:Str} {st:Stmt} {f T:Addr} {oc:Value} {od an:Option Addr} {osl:Array (Option Value)} {kV doc pm cdv ct:Value} {o:Obj} {n:Nat}
 (l:K.lookup f=some ⟨oc,od,.func (PySem.W.fnOf x qual (zak st) (zag st) (zac st) (.ref T) kV doc pm an cdv ct),osl⟩) (c:PySem.W.codeIn K cdv qual=true) (k:PySem.W.keepIn K (.ref f)=true)
 (t:K.lookup T=some o) (d:o.data=.seq #[.none] n):FunD K x qual st f (PySem.W.fnOf x qual (zak st) (zag st) (zac st) (.ref T) kV doc pm an cdv ct):=⟨⟨oc,od,T,kV,doc,pm,an,cdv,ct,osl,o,n,rfl,l,c,t,d⟩,k⟩
theorem FunD.ok {P:Program} {w:World} {K:PySem.W.Frag} {mg:Str→Option Value} {base:Heap} {x qual:Str} {st:Stmt} {f:Addr} {fd:FuncData} {N ps:List Str} {k:Nat} {sp:Sp} (F:FunD K x qual st f fd) (S:FnScope N ps (zac st)) (len:∀vs H Q E,sp vs H Q E→vs.length=ps.length)
  (hbody:∀(cdv:Value) (A:Around) (outer:List Env) (s:Shared) (H:Hp) (vs:List V) (Q:VK) (E:XK),Room k (A.deeper (envOfC qual (zac st) s.heap.objs.size f cdv))→sp vs H Q E→
    ∃t,PSs (cxOf CX0 P w K mg base N qual (zac st) f cdv A outer s H E).nox (zag st) t∧t { nx:=fun _ H'=>Q .non H',rt:=Q } (zcY N vs) H):FnOk P w K mg base CX0 (k+1) f fd ps sp:=by
 obtain ⟨oc,od,T,kV,doc,pm,an,cdv,ct,osl,o,n,rfl,lk,hcd,_,_⟩:=F.ex
 refine zk7 lk hcd S len fun A outer s H vs Q E hr hsp=>?_
 obtain ⟨t,h,q⟩:=hbody cdv A outer s H vs Q E hr hsp
 exact ⟨t,h.nox,q⟩
theorem FunD.binds {K:PySem.W.Frag} {x qual:Str} {st:Stmt} {f:Addr} {fd:FuncData} {ps:List Str} (F:FunD K x qual st f fd)
  (h:∀(dV kV doc pm:Value) (an:Option Addr) (cdv ct:Value) (us:List Value),us.length=ps.length→∃k:Option (Array Value)→Sem (List (Str × Value)),bindArgs (PySem.W.fnOf x qual (zak st) (zag st) (zac st) dV kV doc pm an cdv ct) ⟨us,[]⟩=(seqItems? dV >>= k)∧k (some #[.none])=pure (ps.zip us)):zbN K fd ps []:=by
 obtain ⟨oc,od,T,kV,doc,pm,an,cdv,ct,osl,o,n,rfl,lk,hcd,t,d⟩:=F.ex
 intro s us KX hl
 obtain ⟨k,k1,k2⟩:=h (.ref T) kV doc pm an cdv ct us (by simpa using hl)
 exact BindsTo.of_defaults (T:=T) (o:=o) (items := #[.none]) (n:=n) (k:=k) rfl (KX T o t) d k1 (by rw [k2,List.append_nil])
theorem FunD.bindsD {K:PySem.W.Frag} {x qual:Str} {st:Stmt} {f:Addr} {fd:FuncData} {ps:List Str} (F:FunD K x qual st f fd)
  (h:∀(dV kV doc pm:Value) (an:Option Addr) (cdv ct:Value) (us:List Value),(us++[Value.none]).length=ps.length→∃k:Option (Array Value)→Sem (List (Str × Value)),bindArgs (PySem.W.fnOf x qual (zak st) (zag st) (zac st) dV kV doc pm an cdv ct) ⟨us,[]⟩=(seqItems? dV >>= k)∧k (some #[.none])=pure (ps.zip (us++[.none]))):zbN K fd ps [.none]:=by
 obtain ⟨oc,od,T,kV,doc,pm,an,cdv,ct,osl,o,n,rfl,lk,hcd,t,d⟩:=F.ex
 intro s us KX hl
 obtain ⟨k,k1,k2⟩:=h (.ref T) kV doc pm an cdv ct us hl
 exact BindsTo.of_defaults (T:=T) (o:=o) (items := #[.none]) (n:=n) (k:=k) rfl (KX T o t) d k1 k2
structure DfnD (K:PySem.W.Frag) (mg:Str→Option Value) (x:Str) (st:Stmt) (ps:List Str) (f:Addr) (fd:FuncData):Prop where
 F:FunD K x x st f fd
 b:zbN K fd ps []
 bd:zbN K fd ps [.none]
 m:mg x=some (.ref f)
structure CalD (P:Program) (w:World) (K:PySem.W.Frag) (mg:Str→Option Value) (base:Heap) (x:Str) (k:Nat) (ps:List Str) (sp:Sp):Prop where
 ex:∃f fd,FnOk P w K mg base CX0 k f fd ps sp∧zbN K fd ps []∧zbN K fd ps [.none]∧mg x=some (.ref f)∧PySem.W.keepIn K (.ref f)=true
theorem DfnD.cal {P:Program} {w:World} {K:PySem.W.Frag} {mg:Str→Option Value} {base:Heap} {x:Str} {st:Stmt} {ps:List Str} {f:Addr} {fd:FuncData} {k:Nat} {sp:Sp}
 (D:DfnD K mg x st ps f fd) (G:FnOk P w K mg base CX0 k f fd ps sp):CalD P w K mg base x k ps sp:=⟨⟨f,fd,G,D.b,D.bd,D.m,D.F.kp⟩⟩
section
variable {X:Cx} {k:Nat} {ps:List Str} {sp:Sp} {x:Str} {p pos:Pos} {e:Expr} {es:List Expr} {t:TA}
theorem zlt (C:CalD X.prog X.w X.K X.mg X.base x k ps sp) (hr:Room k X.A) (hg:Gl X x) (ha:PA X (e::es) t) (hdb:(x==("__debug__" : Str))=false:=by decide)
  (he:starEach (e::es) X.env=(false,eval e X.env)::starEach es X.env:=by rfl) (hpl:(backTo pos (starEach es X.env)).any (·.1)=false:=by rfl):
  PE X (.Call (.Name x p) (e::es) [] pos) (zjw sp [] E0 t):=by
 obtain ⟨f,fd,G,b,_,m,kp⟩:=C.ex
 exact zgd G hr hg m kp b .nil zlg ha hdb he hpl
theorem ziP (C:CalD X.prog X.w X.K X.mg X.base x k ps sp) (hr:Room k X.A) (hg:Gl X x) (ha:PA X (e::es) t) (hdb:(x==("__debug__" : Str))=false:=by decide)
  (he:starEach (e::es) X.env=(false,eval e X.env)::starEach es X.env:=by rfl) (hpl:(backTo pos (starEach es X.env)).any (·.1)=false:=by rfl):
  PE X (.Call (.Name x p) (e::es) [] pos) (zjw sp [.non] E0 t):=by
 obtain ⟨f,fd,G,_,b,m,kp⟩:=C.ex
 exact zgd G hr hg m kp b (.cons rfl .nil) zlg ha hdb he hpl
end
end L2
namespace L2
open PySem PySem.Spec PyProof.Rows
abbrev Ch:=List (Cl × Int)
def csC (t:Int) (c:Ch):List Cl:=(c.filter fun k=>decide (0<k.2)&&decide (k.1.came≤t)).map (·.1)
def wkC (t:Int) (h:Nat) (c:Ch):List Int:=((ord (csC t c) t).map (·.n)).take h
def bhC (ws:List Int) (c:Ch):Ch:=(c.map fun k=>(k.1,zaQ ws k)).filter fun k=>decide (0<k.2)
theorem zmx (t:Int) (xs:List (Addr × Cl × Int)):csOf t xs=csC t (xs.map (·.2)):=by
 unfold csOf csC
 rw [List.filter_map,List.map_map]
 rfl
theorem zlu (t:Int) (h:Nat) (xs:List (Addr × Cl × Int)):zdg t h xs=wkC t h (xs.map (·.2)):=by
 unfold zdg wkC
 rw [zmx]
theorem zmy (H:Hp) (ws:List Int) (xs:List (Addr × Cl × Int)):(behL H ws xs).map (·.2)=bhC ws (xs.map (·.2)):=by
 unfold behL bhC
 rw [List.filter_map,List.filter_map,List.map_map,List.filter_map,List.map_map]
 rfl
def runN (h:Nat):Nat→Int→Ch→List (Int × List Int) × Ch
 | 0,_,c=>([],c)
 | n+1,t,c=>let r:=runN h n t c;(r.1++[(t+n,wkC (t+n) h r.2)],bhC (wkC (t+n) h r.2) r.2)
def sumC (c:Ch):Nat:=(c.map fun k=>k.2.toNat).sum
theorem zd8 {ws:List Int} {c:Ch} {k:Cl × Int} (h:k∈bhC ws c):0<k.2:=of_decide_eq_true (List.mem_filter.mp h).2
theorem ziQ (ws:List Int):∀c:Ch,sumC (bhC ws c)≤sumC c
 | []=>Nat.le_refl _
 | k::c=>by
   have ih:=ziQ ws c
   have e:bhC ws (k::c)=(if decide (0<zaQ ws k)=true then [(k.1,zaQ ws k)] else [])++bhC ws c:=by
    unfold bhC
    rw [List.map_cons,List.filter_cons]
    split<;>rfl
   rw [e]
   have le:zaQ ws k≤k.2:=by
    unfold zaQ
    split<;>omega
   unfold sumC at *
   split
   ·simp
    omega
   ·simp
    omega
theorem zkF {ws:List Int}:∀ {c:Ch} {k:Cl × Int},k∈c→0<k.2→k.1.n∈ws→sumC (bhC ws c)<sumC c
 | j::c,k,hk,pos,hw=>by
   have ih:=ziQ ws c
   have e:bhC ws (j::c)=(if decide (0<zaQ ws j)=true then [(j.1,zaQ ws j)] else [])++bhC ws c:=by
    unfold bhC
    rw [List.map_cons,List.filter_cons]
    split<;>rfl
   rw [e]
   have le:zaQ ws j≤j.2:=by
    unfold zaQ
    split<;>omega
   rcases List.mem_cons.mp hk with rfl | hk
   ·have lt:zaQ ws k=k.2-1:=by
     unfold zaQ
     rw [if_pos hw]
    unfold sumC at *
    split
    ·simp
     omega
    ·simp
     omega
   ·have ih2:=zkF hk pos hw
    unfold sumC at *
    split
    ·simp
     omega
    ·simp
     omega
theorem zjT {t:Int} {h:Nat} {c:Ch} (h0:0<h) (hc:c≠[]) (pos:∀k,k∈c→0<k.2) (cm:∀k,k∈c→k.1.came≤1000):sumC (bhC (wkC t h c) c)+(1001-(t+1)).toNat<sumC c+(1001-t).toNat:=by
 by_cases e:csC t c=[]
 ·
  have late:t<1000:=by
   cases c with
   | nil=>exact (hc rfl).elim
   | cons k c=>
     have:k∉(k::c).filter fun k=>decide (0<k.2)&&decide (k.1.came≤t):=fun z=>by
      have:k.1∈csC t (k::c):=List.mem_map.mpr ⟨k,z,rfl⟩
      rw [e] at this
      cases this
     have p:=pos k List.mem_cons_self
     have q:=cm k List.mem_cons_self
     refine Int.not_le.mp fun z=>this (List.mem_filter.mpr ⟨List.mem_cons_self,?_⟩)
     rw [decide_eq_true p,decide_eq_true (show k.1.came≤t by omega)]
     rfl
  have:=ziQ (wkC t h c) c
  omega
 ·have lo:(ord (csC t c) t).length=(csC t c).length:=(zbI _ _).length_eq
  have lp:0<(csC t c).length:=List.length_pos_iff.mpr e
  obtain ⟨x,xs,eo⟩:=List.exists_cons_of_ne_nil (show ord (csC t c) t≠[] from fun z=>by rw [z] at lo;simp at lo;omega)
  have hm:x.n∈wkC t h c:=by
   unfold wkC
   rw [eo]
   cases h with
   | zero=>omega
   | succ h=>simp
  have mem:x∈csC t c:=(zbI (csC t c) t).mem_iff.mp (by rw [eo];exact List.mem_cons_self)
  obtain ⟨k,hk,ek⟩:=List.mem_map.mp mem
  rw [←ek] at hm
  have hk:=(List.mem_filter.mp hk).1
  have:=zkF (ws:=wkC t h c) hk (pos k hk) hm
  omega
end L2
namespace L2
open PySem PySem.Spec PyProof.Rows
theorem zgp (c:Ch):bhC [] c=c.filter fun k=>decide (0<k.2):=by
 unfold bhC
 have e:(c.map fun k=>(k.1,zaQ [] k))=c:=by
  have:∀k:Cl × Int,(k.1,zaQ [] k)=k:=fun k=>by
   unfold zaQ
   rw [if_neg (by simp)]
  rw [show (fun k:Cl × Int=>(k.1,zaQ [] k))=id from funext this,List.map_id]
 rw [e]
theorem zaV (h n:Nat) (t:Int) (c:Ch):runN h (n+1) t c=((runN h n t c).1++[(t+n,wkC (t+n) h (runN h n t c).2)],bhC (wkC (t+n) h (runN h n t c).2) (runN h n t c).2):=rfl
theorem zeW (h:Nat) (t:Int) (c:Ch):∀n,(runN h n t c).1.length=n
 | 0=>rfl
 | n+1=>by
   rw [zaV,List.length_append,zeW h t c n]
   rfl
structure IsRun (H:Hp) (l:Addr) (rs:List (Addr × Addr × Int × List Int)):Prop where
 at_:H l=some (.lst (rs.map fun r=>V.ref r.1))
 row:∀r,r∈rs→H r.1=some (.tup [.int r.2.2.1,.ref r.2.1])
 num:∀r,r∈rs→H r.2.1=some (.lst (r.2.2.2.map V.int))
theorem IsRun.same {H H':Hp} {l:Addr} {rs:List (Addr × Addr × Int × List Int)} (s:Same H H') (h:IsRun H l rs):IsRun H' l rs:=⟨s _ _ h.at_,fun r hr=>s _ _ (h.row r hr),fun r hr=>s _ _ (h.num r hr)⟩
theorem IsRun.app {H H':Hp} {l p m:Addr} {rs:List (Addr × Addr × Int × List Int)} {t:Int} {ws:List Int} (h:IsRun H l rs) (k:But l H H') (e:H' l=some (.lst ((rs.map fun r=>V.ref r.1)++[.ref p]))) (hp:H p=some (.tup [.int t,.ref m])) (hm:H m=some (.lst (ws.map V.int)))
  (ne:m≠l) (nl:∀r,r∈rs→r.2.1≠l):IsRun H' l (rs++[(p,m,t,ws)]):=by
 have np:∀q ys,H q=some (.tup ys)→q≠l:=fun q ys g z=>by
  rw [z,h.at_] at g
  cases g
 refine ⟨by rw [e,List.map_append];rfl,fun r hr=>?_,fun r hr=>?_⟩
 ·rcases List.mem_append.mp hr with hr | hr
  ·exact k _ _ (np _ _ (h.row r hr)) (h.row r hr)
  ·rw [List.mem_singleton.mp hr]
   exact k _ _ (np _ _ hp) hp
 ·rcases List.mem_append.mp hr with hr | hr
  ·exact k _ _ (nl r hr) (h.num r hr)
  ·rw [List.mem_singleton.mp hr]
   exact k _ _ ne hm
end L2
namespace L2
open PySem PySem.Spec PyProof.Rows
def Itd (a:Addr) (o:Obj) (kvs:List (Key × V)):It:=
 ⟨fun i H=>H a=some (.frz o (.dK kvs))∧i<kvs.length,fun i H x H'=>H'=H∧∃kv,kvs[i]?=some kv∧x=kV kv.1,fun i H=>H a=some (.frz o (.dK kvs))∧kvs.length≤i⟩
theorem zlv {P:Program} {w:World} {k:Key} {u:Value} (h:(zaI P w).is k u=true):RelV (kV k) u:=by
 rw [zez] at h
 cases k with
 | inl i=>
   cases u<;>first
    | (exact absurd h Bool.false_ne_true)
    | (have h:(_==_)=true:=h;rw [beq_iff_eq] at h;subst h;exact ⟨_,rfl⟩)
 | inr x=>
   cases u<;>first
    | (exact absurd h Bool.false_ne_true)
    | (have h:(_==_)=true:=h;rw [beq_iff_eq] at h;subst h;exact ⟨_,rfl⟩)
theorem zkG {P:Program} {w:World} {H:Hp} {h:Heap} {a:Addr} {o:Obj} {kvs:List (Key × V)} {es:Array DictEntry} {ep:Nat} (ok:HOk P w H h) (e:H a=some (.frz o (.dK kvs))) (d:o.data=.dict es ep):
  ∃vs,KV kvs vs∧h.DictAt (zaI P w) a vs ep:=by
 obtain ⟨ho,_,_,vs,rel,ob,es',ep',h1,h2,h3,h4⟩:=(show h.get? a=some o∧zbJ P w H h a (.dK kvs) from ok a _ e)
 rw [ho] at h1
 cases h1
 rw [d] at h3
 cases h3
 exact ⟨vs,rel,o,es,ho,h2,d,h4⟩
theorem ziR {P:Program} {w:World} {K:PySem.W.Frag} {tg:Expr} (a it:Addr) (o:Obj) (kvs:List (Key × V)) {es:Array DictEntry} {ep:Nat} (d:o.data=.dict es ep):
  Turn P w K tg (Itd a o kvs) [it] it (fun i h=>h.IsKeyIter it a i kvs.length ep) where
 mem:=by simp
 obj:=fun i h st b hb=>by
  have e:b=it:=by simpa using hb
  subst e
  obtain ⟨o,e,c,d⟩:=st
  exact ⟨o,e,fun v z=>by rw [d] at z;cases z⟩
 keep:=fun i h h' st k=>st.at fun o e=>k it (by simp) o e
 item:=by
  intro X hP hw hK hc i pins s σ H E I hf st hg
  subst hP hw hK
  obtain ⟨hq,hi⟩:=hg
  obtain ⟨vs,rel,dd⟩:=zkG I.hok hq d
  obtain ⟨f0,f1,f2,f3,f4,f5⟩:=hf it (by simp)
  have lv:=rel.length
  obtain ⟨⟨k,x⟩,hx⟩:∃p,vs[i]?=some p:=⟨vs[i]'(by omega),List.getElem?_eq_getElem (by omega)⟩
  obtain ⟨⟨k',x'⟩,hx'⟩:∃p,kvs[i]?=some p:=⟨kvs[i]'hi,List.getElem?_eq_getElem hi⟩
  have ek:k'=k:=by
   have:=congrArg (·[i]?) rel.keys
   simp only [List.getElem?_map,hx,hx',Option.map_some] at this
   exact Option.some.inj this
  subst ek
  rw [lv] at st
  refine wpAny_pyNext_dict_item st dd hx fun key h' hkey st' sb=>?_
  have I1:Inv X pins σ H { s with heap:=h' }:=I.turned (t':=s.toks) (fun b o hb e=>(sb.2 b hb).trans e) f0 f1 f3 f4 f5
  obtain ⟨o',e,c,d'⟩:=id st'
  rw [←lv] at st'
  exact ⟨key,rfl,zjr (s := { s with heap:=h' }) e c d' (by decide) ⟨kV k',H,I1,zlv hkey,⟨rfl,_,hx',rfl⟩,st',fun b hb=>(hf b hb).1⟩⟩
 done:=by
  intro X hP hw hK hc i pins s σ H E I hf st hg
  subst hP hw hK
  obtain ⟨hq,hi⟩:=hg
  obtain ⟨vs,rel,dd⟩:=zkG I.hok hq d
  obtain ⟨f0,f1,f2,f3,f4,f5⟩:=hf it (by simp)
  have lv:=rel.length
  rw [lv] at st
  exact wpAny_pyNext_dict_end (I.ok.hd hc) st dd (List.getElem?_eq_none (by omega)) fun h' eb=>⟨rfl,I.turned (t':=s.toks) (fun b o hb e=>eb b o hb e) f0 f1 f3 f4 f5⟩
 self:=fun _ _ _ _ _ st h=>wpAny_pyIter_keyiter st h
section
variable {X:Cx} {tg:Expr}
def znl (tl:TE):TI:=fun σ H R=>tl σ H fun x H1=>∃a kvs,x=.ref a∧Rd H1 a (.dK kvs)∧∀o H2,But a H1 H2→H2 a=some (.frz o (.dK kvs))→R (Itd a o kvs) H2
theorem zeX {l:Expr} {tl:TE} (hl:PE X l tl):PI X tg l (znl tl):=by
 with_unfolding_all
  intro pins s σ H R I h
  refine thn (hl pins s σ H _ I h) fun v s1 ⟨x,H1,I1,r1,q1⟩=>?_
  obtain ⟨a,kvs,e,hq,q⟩:=q1
  subst e
  cases r1
  obtain ⟨z,y,vs,rel,o,es,ep,ho,oc,od,r⟩:=zhz I1.hok hq
  have lv:=rel.length
  refine wpAny_pyIter_dict y (show s1.heap.DictAt (zaI X.prog X.w) a vs ep from ⟨o,es,ho,oc,od,r⟩) ?_
  have I2:∃H2,But a H1 H2∧H2 a=some (.frz o (.dK kvs))∧Inv X pins σ H2 s1:=by
   rcases hq with hq | ⟨o',hq⟩
   ·exact ⟨_,fun b u hb e=>by rw [zap hb];exact e,zar,I1.write (x:=a) (e:=a) (o:=.frz o (.dK kvs)) (h':=s1.heap) (t':=s1.toks) (by rw [hq];trivial) (.inl rfl) (fun _ _ _ q=>q) ⟨o,ho⟩ ⟨ho,z,y,vs,rel,o,es,ep,ho,oc,od,r⟩⟩
   ·obtain ⟨ho',_⟩:=(show s1.heap.get? a=some o'∧_ from I1.hok a _ hq)
    rw [ho] at ho'
    cases ho'
    exact ⟨H1,fun _ _ _ e=>e,hq,I1⟩
  obtain ⟨H2,k2,h2,I2⟩:=I2
  refine ⟨s1.heap.objs.size,[s1.heap.objs.size],_,_,H2,rfl,I2.kept (t':=s1.toks) fun b o e=>Heap.get?_push_of_some _ e,ziR a _ o kvs od,?_,fun b hb=>?_,q o H2 k2 h2⟩
  ·show Heap.IsKeyIter _ _ _ _ _ _
   rw [lv]
   exact ⟨_,Heap.get?_push_size _ rfl,rfl,rfl⟩
  ·have e:b=s1.heap.objs.size:=by simpa using hb
   subst e
   exact I2.fpOk (Nat.le_refl _) (I2.hok.fresh (Nat.le_refl _))
end
theorem zd9 {a:Addr} {ob:Obj} {kvs:List (Key × V)} {js:List Nat} {tc:TT} {te:TE} {σ:St} {H1:Hp} {Q:VK} (p:Nat→Bool) (f:Nat→V) (hl:H1 a=some (.frz ob (.dK kvs)))
  (ht:∀i kv Hh (Q':Bool→Hp→Prop),kvs[i]?=some kv→Same H1 Hh→(∀Hh',Same Hh Hh'→Q' (p i) Hh')→tc (some (kV kv.1)::caps σ js) Hh Q')
  (he:∀i kv Hh (Q':VK),kvs[i]?=some kv→p i=true→Same H1 Hh→(∀Hh',Same Hh Hh'→Q' (f i) Hh')→te (some (kV kv.1)::caps σ js) Hh Q')
  (hz:kvs.length<sizeLine) (q:∀D H2,Same H1 H2→H1 D=none→H2 D=some (.lst (((List.range kvs.length).filter p).map f))→Q (.ref D) H2):
  zeA (Itd a ob kvs) js tc te σ H1 Q:=by
 intro D H2 s2 hD h2
 refine ⟨fun i m acc H3=>m=kvs.length-i∧i≤kvs.length∧acc=((List.range i).filter p).map f∧Same H1 H3∧H3 D=some (.lst acc),⟨_,rfl,Nat.zero_le _,by simp,s2,h2⟩,?_⟩
 rintro i m acc H3 ⟨rfl,hi,ea,s3,h3⟩
 have hl3:=s3 _ _ hl
 have hll:acc.length≤kvs.length:=by
  rw [ea,List.length_map]
  refine Nat.le_trans (List.length_filter_le _ _) ?_
  rw [List.length_range]
  exact hi
 refine ⟨h3,by omega,?_⟩
 by_cases hlt:i<kvs.length
 ·refine .inr ⟨⟨hl3,hlt⟩,fun y H4 z=>?_⟩
  obtain ⟨e,kv,ey2,rfl⟩:=z
  subst e
  refine ht i kv _ _ ey2 s3 fun H5 s5=>?_
  have h5:=s5 _ _ h3
  have s35:=s3.trans s5
  have tk:(List.range (i+1)).filter p=(List.range i).filter p++(if p i=true then [i] else []):=by
   rw [List.range_succ,List.filter_append]
   congr 1
   cases h:p i<;>simp [h]
  cases hp:p i with
  | true=>
    refine iteT (he i kv _ _ ey2 hp s35 fun H6 s6=>⟨s6 _ _ h5,fun H7 k7 h7=>⟨kvs.length-(i+1),by omega,rfl,hlt,?_,fun b o e=>?_,h7⟩⟩)
    ·rw [tk,hp,if_pos rfl,List.map_append,←ea]
     rfl
    ·by_cases hb:b=D
     ·subst hb
      rw [hD] at e
      cases e
     ·exact k7 b o hb (s6 b o (s35 b o e))
  | false=>
    refine iteF ⟨kvs.length-(i+1),by omega,rfl,hlt,?_,s35,h5⟩
    rw [tk,hp,if_neg Bool.false_ne_true,List.append_nil]
    exact ea
 ·have e:i=kvs.length:=by omega
  subst e
  refine .inl ⟨⟨hl3,Nat.le_refl _⟩,?_⟩
  rw [ea] at h3
  exact q D _ s3 hD h3
section
variable {X:Cx}
end
end L2
namespace L2
open PySem PySem.Spec PyProof.Rows
def dI (L:List (Int × Int)):List (Key × V):=L.map fun p=>(.inl p.1,V.int p.2)
def valI (L:List (Int × Int)) (k:Int):Option Int:=(L.find? fun p=>decide (p.1=k)).map (·.2)
def putI (L:List (Int × Int)) (k v:Int):List (Int × Int):=if (L.any fun p=>decide (p.1=k))=true then L.map (fun p=>if p.1=k then (p.1,v) else p) else L++[(k,v)]
theorem ziS (L:List (Int × Int)) (k:Int):valV (dI L) (.inl k)=(valI L k).map V.int:=by
 induction L with
 | nil=>rfl
 | cons p L ih=>
   unfold dI valI at *
   rw [List.map_cons]
   by_cases e:p.1=k
   ·rw [zbj (by rw [e]),List.find?_cons_of_pos (by simp [e])]
    rfl
   ·rw [za9 (fun z=>e (Sum.inl.inj z)),List.find?_cons_of_neg (by simp [e])]
    exact ih
theorem zmz (L:List (Int × Int)) (k:Int):((dI L).any fun kv=>decide (kv.1=.inl k))=L.any fun p=>decide (p.1=k):=by
 induction L with
 | nil=>rfl
 | cons p L ih=>
   unfold dI at *
   rw [List.map_cons,List.any_cons,List.any_cons,ih]
   congr 1
   by_cases e:p.1=k
   ·simp [e]
   ·rw [decide_eq_false e]
    exact decide_eq_false fun z=>e (Sum.inl.inj z)
theorem ziT (L:List (Int × Int)) (k v:Int):putK (dI L) (.inl k) (.int v)=dI (putI L k v):=by
 unfold putK putI
 rw [zmz]
 by_cases c:(L.any fun p=>decide (p.1=k))=true
 ·rw [if_pos c,if_pos c]
  unfold dI
  rw [List.map_map,List.map_map]
  refine List.map_congr_left fun p _=>?_
  show (if (Sum.inl p.1:Key)=.inl k then _ else _)=_
  by_cases e:p.1=k
  ·rw [if_pos (by rw [e])]
   show _=(fun q:Int × Int=>((Sum.inl q.1:Key),V.int q.2)) (if p.1=k then (p.1,v) else p)
   rw [if_pos e]
  ·rw [if_neg (fun z=>e (Sum.inl.inj z))]
   show _=(fun q:Int × Int=>((Sum.inl q.1:Key),V.int q.2)) (if p.1=k then (p.1,v) else p)
   rw [if_neg e]
 ·rw [if_neg c,if_neg c]
  unfold dI
  rw [List.map_append]
  rfl
theorem zdw (L:List (Int × Int)):(dI L).length=L.length:=List.length_map _
theorem zjU (L:List (Int × Int)) (k v:Int):(putI L k v).length≤L.length+1:=by
 unfold putI
 split
 ·rw [List.length_map]
  omega
 ·rw [List.length_append]
  exact Nat.le_refl _
theorem zeY {L:List (Int × Int)} {p:Int × Int} (h:p∈L):∃v,valI L p.1=some v:=by
 unfold valI
 cases e:L.find? fun q=>decide (q.1=p.1) with
 | some q=>exact ⟨_,rfl⟩
 | none=>
   have:=List.find?_eq_none.mp e p h
   simp at this
def zcu (t:Int):List Int→List (Int × Int)→List (Int × Int)
 | [],L=>L
 | n::ns,L=>zcu t ns (putI L n t)
def zb0:List (Int × List Int)→List (Int × Int)→List (Int × Int)
 | [],L=>L
 | r::rs,L=>zb0 rs (zcu r.1 r.2 L)
theorem zeE (t n:Int):∀(ns:List Int) (L:List (Int × Int)),zcu t (ns++[n]) L=putI (zcu t ns L) n t
 | [],L=>rfl
 | m::ns,L=>zeE t n ns (putI L m t)
theorem zeF (r:Int × List Int):∀(rs:List (Int × List Int)) (L:List (Int × Int)),zb0 (rs++[r]) L=zcu r.1 r.2 (zb0 rs L)
 | [],L=>rfl
 | q::rs,L=>zeF r rs (zcu q.1 q.2 L)
theorem zea (t:Int):∀(ns:List Int) (L:List (Int × Int)),(zcu t ns L).length≤L.length+ns.length
 | [],L=>Nat.le_refl _
 | n::ns,L=>by
   have a:=zea t ns (putI L n t)
   have b:=zjU L n t
   show (zcu t ns (putI L n t)).length≤_
   rw [List.length_cons]
   omega
theorem zeb {B:Nat}:∀(rs:List (Int × List Int)) (L:List (Int × Int)),(∀r,r∈rs→r.2.length≤B)→(zb0 rs L).length≤L.length+B*rs.length
 | [],L,_=>Nat.le_refl _
 | r::rs,L,h=>by
   have a:=zeb rs (zcu r.1 r.2 L) fun q hq=>h q (List.mem_cons_of_mem _ hq)
   have b:=zea r.1 r.2 L
   have c:=h r List.mem_cons_self
   show (zb0 rs (zcu r.1 r.2 L)).length≤_
   rw [List.length_cons,Nat.mul_succ]
   omega
theorem zc2 {H:Hp} {a:Addr} {L:List (Int × Int)} (h:Rd H a (.dK (dI L))) (k:Int):DGet H a (.int k) ((valI L k).map V.int):=.inl ⟨_,.inl k,h,rfl,(ziS L k).symm⟩
theorem zlw {t:Int} {h:Nat} {c:Ch} {j:Int} (hj:j∈wkC t h c):j∈c.map (·.1.n):=by
 obtain ⟨d,hd,rfl⟩:=List.mem_map.mp (List.mem_of_mem_take hj)
 obtain ⟨k,hk,rfl⟩:=List.mem_map.mp ((zbI _ _).mem_iff.mp hd)
 exact List.mem_map.mpr ⟨k,(List.mem_filter.mp hk).1,rfl⟩
end L2
namespace L2
open PySem PySem.Spec PyProof.Rows
section
variable {X:Cx} {pins:List (Addr × Obj)} {σ:St} {H:Hp} {s:Shared}
end
section
variable {X:Cx}
end
end L2
namespace L2
open PySem PySem.Spec PyProof.Rows
structure GdC (c:Ch):Prop where
 ok:∀k,k∈c→k.1.Ok
 nd:(c.map (·.1.n)).Nodup
def LeqC (c d:Ch):Prop:=∀k,k∈c→∃x:Int,k.2≤x∧(k.1,x)∈d
theorem zgq {ws:List Int} {c:Ch} {k:Cl × Int} (h:k∈bhC ws c):∃j,j∈c∧k=(j.1,zaQ ws j)∧0<zaQ ws j:=by
 obtain ⟨h1,h2⟩:=List.mem_filter.mp h
 obtain ⟨j,hj,e⟩:=List.mem_map.mp h1
 subst e
 exact ⟨j,hj,rfl,of_decide_eq_true h2⟩
theorem zg7 {ws:List Int} {c:Ch} {j:Cl × Int} (hj:j∈c) (h:0<zaQ ws j):(j.1,zaQ ws j)∈bhC ws c:=
 List.mem_filter.mpr ⟨List.mem_map.mpr ⟨j,hj,rfl⟩,decide_eq_true h⟩
theorem zjV (ws:List Int) (c:Ch):((bhC ws c).map (·.1)).Sublist (c.map (·.1)):=by
 unfold bhC
 have e:(c.map (·.1))=(c.map fun k=>(k.1,zaQ ws k)).map (·.1):=by
  rw [List.map_map]
  rfl
 rw [e]
 exact List.filter_sublist.map _
theorem GdC.bh {c:Ch} (g:GdC c) (ws:List Int):GdC (bhC ws c):=by
 refine ⟨fun k hk=>?_,?_⟩
 ·obtain ⟨j,hj,e,_⟩:=zgq hk
  rw [e]
  exact g.ok j hj
 ·have s:=(zjV ws c).map (·.n)
  rw [List.map_map,List.map_map] at s
  exact g.nd.sublist s
theorem GdC.cl {c:Ch} (g:GdC c) {k j:Cl × Int} (hk:k∈c) (hj:j∈c) (e:k.1.n=j.1.n):k=j:=by
 have:∀ {l:Ch},(l.map (·.1.n)).Nodup→∀ {k j:Cl × Int},k∈l→j∈l→k.1.n=j.1.n→k=j:=by
  intro l
  induction l with
  | nil=>
    intro _ k j hk
    cases hk
  | cons x l ih=>
    intro nd k j hk hj e
    rw [List.map_cons,List.nodup_cons] at nd
    rcases List.mem_cons.mp hk with ek | hk'
    ·rcases List.mem_cons.mp hj with ej | hj'
     ·rw [ek,ej]
     ·exact (nd.1 (List.mem_map.mpr ⟨j,hj',by rw [←ek];exact e.symm⟩)).elim
    ·rcases List.mem_cons.mp hj with ej | hj'
     ·exact (nd.1 (List.mem_map.mpr ⟨k,hk',by rw [←ej];exact e⟩)).elim
     ·exact ih nd.2 hk' hj' e
 exact this g.nd hk hj e
theorem GdC.good {c:Ch} (g:GdC c) (t:Int):Good (csC t c):=by
 refine ⟨fun d hd=>?_,?_⟩
 ·obtain ⟨k,hk,rfl⟩:=List.mem_map.mp hd
  exact g.ok k (List.mem_filter.mp hk).1
 ·unfold csC
  rw [List.map_map]
  exact g.nd.sublist (List.filter_sublist.map _)
theorem zeZ {t:Int} {c:Ch} {d:Cl}:d∈csC t c↔∃x:Int,(d,x)∈c∧0<x∧d.came≤t:=by
 unfold csC
 constructor
 ·intro h
  obtain ⟨k,hk,rfl⟩:=List.mem_map.mp h
  obtain ⟨h1,h2⟩:=List.mem_filter.mp hk
  rw [Bool.and_eq_true,decide_eq_true_iff,decide_eq_true_iff] at h2
  exact ⟨k.2,h1,h2.1,h2.2⟩
 ·rintro ⟨x,h1,h2,h3⟩
  refine List.mem_map.mpr ⟨(d,x),List.mem_filter.mpr ⟨h1,?_⟩,rfl⟩
  rw [decide_eq_true h2,decide_eq_true h3]
  rfl
theorem ziU {t:Int} {h:Nat} {c:Ch} (g:GdC c) {j:Int}:j∈wkC t h c↔∃d,d∈csC t c∧d.n=j∧rnk (csC t c) t d<h:=by
 unfold wkC
 constructor
 ·intro hj
  obtain ⟨i,hi,ei⟩:=List.getElem_of_mem hj
  rw [List.length_take,List.length_map] at hi
  have e1:(((ord (csC t c) t).map (·.n)).take h)[i]?=some j:=by
   rw [List.getElem?_eq_getElem (by rw [List.length_take,List.length_map];exact hi),ei]
  rw [List.getElem?_take,if_pos (by omega),List.getElem?_map] at e1
  cases ed:(ord (csC t c) t)[i]? with
  | none=>rw [ed] at e1;cases e1
  | some d=>
    rw [ed] at e1
    refine ⟨d,(zbI _ _).mem_iff.mp (List.mem_of_getElem? ed),Option.some.inj e1,?_⟩
    rw [zg5 (g.good t) ed]
    omega
 ·rintro ⟨d,hd,rfl,hr⟩
  have e:=zjR (g.good t) t hd
  refine List.mem_of_getElem? (i:=rnk (csC t c) t d) ?_
  rw [List.getElem?_take,if_pos hr,List.getElem?_map,e]
  rfl
theorem zmA {t:Int} {c d:Ch} (l:LeqC c d) {k:Cl} (h:k∈csC t c):k∈csC t d:=by
 obtain ⟨x,h1,h2,h3⟩:=zeZ.mp h
 obtain ⟨y,hy,m⟩:=l _ h1
 have hy:x≤y:=hy
 exact zeZ.mpr ⟨y,m,by omega,h3⟩
theorem zjW {t:Int} {c d:Ch} (g:GdC c) (l:LeqC c d) (k:Cl):rnk (csC t c) t k≤rnk (csC t d) t k:=by
 unfold rnk
 have nd:(((csC t c).filter fun o=>decide (o.n≠k.n)&&ahd o k t).map (·.n)).Nodup:=(g.good t).nd.sublist (List.filter_sublist.map _)
 have:=ziI (m:=((csC t d).filter fun o=>decide (o.n≠k.n)&&ahd o k t).map (·.n)) nd fun x hx=>by
  obtain ⟨y,hy,e⟩:=List.mem_map.mp hx
  obtain ⟨h1,h2⟩:=List.mem_filter.mp hy
  exact List.mem_map.mpr ⟨y,List.mem_filter.mpr ⟨zmA l h1,h2⟩,e⟩
 rw [List.length_map,List.length_map] at this
 exact this
theorem zjX {t:Int} {h h':Nat} {c d:Ch} (gc:GdC c) (gd:GdC d) (l:LeqC c d) (hh:h≤h'):LeqC (bhC (wkC t h' c) c) (bhC (wkC t h d) d):=by
 intro k hk
 obtain ⟨j,hj,e,pos⟩:=zgq hk
 obtain ⟨x,hx,mx⟩:=l j hj
 subst e
 have le:zaQ (wkC t h' c) j≤j.2:=by
  unfold zaQ
  split<;>omega
 by_cases w:j.1.n∈wkC t h d
 ·have lx:zaQ (wkC t h d) (j.1,x)=x-1:=if_pos w
  have fin:zaQ (wkC t h' c) j≤x-1:=by
   by_cases jx:j.2=x
   ·obtain ⟨q,hq,eq,hr⟩:=(ziU gd).mp w
    obtain ⟨y,hy,y0,yt⟩:=zeZ.mp hq
    have e1:=gd.cl hy mx eq
    have eq1:q=j.1:=congrArg Prod.fst e1
    subst eq1
    have mem:j.1∈csC t c:=zeZ.mpr ⟨j.2,hj,by omega,yt⟩
    have:=zjW (t:=t) gc l j.1
    have w':j.1.n∈wkC t h' c:=(ziU gc).mpr ⟨j.1,mem,rfl,by omega⟩
    unfold zaQ
    rw [if_pos w']
    omega
   ·omega
  refine ⟨x-1,fin,?_⟩
  have:=zg7 (ws:=wkC t h d) mx (by rw [lx];omega)
  rw [lx] at this
  exact this
 ·have lx:zaQ (wkC t h d) (j.1,x)=x:=if_neg w
  refine ⟨x,by show zaQ _ j≤x;omega,?_⟩
  have:=zg7 (ws:=wkC t h d) mx (by rw [lx];omega)
  rw [lx] at this
  exact this
inductive Hist (h:Nat) (b:Int) (c0:Ch):Nat→List (Int × List Int)→Ch→Prop
 | zero:Hist h b c0 0 [] c0
 | succ {n:Nat} {rs:List (Int × List Int)} {c:Ch} {h':Nat}:Hist h b c0 n rs c→h≤h'→Hist h b c0 (n+1) (rs++[(b+n,wkC (b+n) h' c)]) (bhC (wkC (b+n) h' c) c)
theorem zkH {h:Nat} {b:Int} {d:Ch} (g:GdC d):∀n,GdC (runN h n b d).2
 | 0=>g
 | n+1=>by
   rw [zaV]
   exact (zkH g n).bh _
theorem Hist.gd {h n:Nat} {b:Int} {c0 c:Ch} {rs:List (Int × List Int)} (g:GdC c0) (H:Hist h b c0 n rs c):GdC c:=by
 induction H with
 | zero=>exact g
 | succ _ _ ih=>exact ih.bh _
theorem Hist.leq {h n:Nat} {b:Int} {c0 c d:Ch} {rs:List (Int × List Int)} (gc:GdC c0) (gd:GdC d) (l:LeqC c0 d) (H:Hist h b c0 n rs c):
  LeqC c (runN h n b d).2∧∀r,r∈rs→∃m:Nat,r.1=b+m∧∀j,j∈r.2→j∈(runN h m b d).2.map (·.1.n):=by
 induction H with
 | zero=>exact ⟨l,fun r hr=>by cases hr⟩
 | @succ n rs c h' H hh ih=>
   have g:=H.gd gc
   rw [zaV]
   refine ⟨zjX g (zkH gd n) ih.1 hh,fun r hr=>?_⟩
   rcases List.mem_append.mp hr with hr | hr
   ·exact ih.2 r hr
   ·rw [List.mem_singleton.mp hr]
    refine ⟨n,rfl,fun j hj=>?_⟩
    obtain ⟨k,hk,rfl⟩:=List.mem_map.mp (zlw hj)
    obtain ⟨x,_,hx⟩:=ih.1 k hk
    exact List.mem_map.mpr ⟨_,hx,rfl⟩
theorem zgr {h:Nat} {b:Int} {d:Ch} {n:Nat} (e:(runN h n b d).2=[]):∀m,(runN h (n+m) b d).2=[]
 | 0=>e
 | m+1=>by
   rw [show n+(m+1)=n+m+1 from rfl,zaV]
   show bhC _ (runN h (n+m) b d).2=[]
   rw [zgr e m]
   rfl
theorem zfM {h:Nat} {b:Int} {d:Ch} {j:Int}:∀(q m:Nat),j∈(runN h m b d).2.map (·.1.n)→(∀k,k∈(runN h m b d).2→0<k.2)→(runN h (m+q) b d).2=[]→∃i,m≤i∧i<m+q∧j∈wkC (b+i) h (runN h i b d).2
 | 0,m,hj,_,e=>by
   rw [Nat.add_zero] at e
   rw [e] at hj
   cases hj
 | q+1,m,hj,pos,e=>by
   by_cases w:j∈wkC (b+m) h (runN h m b d).2
   ·exact ⟨m,Nat.le_refl _,by omega,w⟩
   ·obtain ⟨k,hk,ek⟩:=List.mem_map.mp hj
    have hj':j∈(runN h (m+1) b d).2.map (·.1.n):=by
     rw [zaV]
     have lk:zaQ (wkC (b+m) h (runN h m b d).2) k=k.2:=if_neg (by rw [ek];exact w)
     exact List.mem_map.mpr ⟨_,zg7 hk (by rw [lk];exact pos k hk),ek⟩
    have pos':∀k,k∈(runN h (m+1) b d).2→0<k.2:=by
     rw [zaV]
     exact fun k hk=>zd8 hk
    obtain ⟨i,a1,a2,a3⟩:=zfM q (m+1) hj' pos' (by rw [show m+1+q=m+(q+1) by omega];exact e)
    exact ⟨i,by omega,by omega,a3⟩
theorem ze0 {h:Nat} {b:Int} {d:Ch} {i:Nat}:∀ {n:Nat},i<n→(b+i,wkC (b+i) h (runN h i b d).2)∈(runN h n b d).1
 | n+1,hi=>by
   rw [zaV]
   by_cases e:i=n
   ·subst e
    exact List.mem_append.mpr (.inr (List.mem_singleton.mpr rfl))
   ·exact List.mem_append.mpr (.inl (ze0 (by omega)))
theorem zkI {h:Nat} {b:Int} {d:Ch}:∀n,(runN h n b d).1.Pairwise (fun r q=>r.1<q.1)∧∀r,r∈(runN h n b d).1→r.1<b+n
 | 0=>⟨.nil,fun r hr=>by cases hr⟩
 | n+1=>by
   obtain ⟨p,u⟩:=zkI (h:=h) (b:=b) (d:=d) n
   rw [zaV]
   refine ⟨List.pairwise_append.mpr ⟨p,List.pairwise_singleton _ _,fun r hr q hq=>?_⟩,fun r hr=>?_⟩
   ·rw [List.mem_singleton.mp hq]
    exact u r hr
   ·rcases List.mem_append.mp hr with hr | hr
    ·have:=u r hr
     omega
    ·rw [List.mem_singleton.mp hr]
     show b+(n:Int)<b+((n+1:Nat):Int)
     omega
theorem zjY {L:List (Int × Int)} {k v j:Int}:valI (putI L k v) j=if j=k then some v else valI L j:=by
 have h:=zjy (dI L) (.inl k) (.inl j) (V.int v)
 rw [ziT,ziS,ziS] at h
 by_cases e:j=k
 ·rw [if_pos (by rw [e])] at h
  rw [if_pos e]
  cases z:valI (putI L k v) j with
  | none=>rw [z] at h;cases h
  | some u=>rw [z] at h;cases h;rfl
 ·rw [if_neg (fun z=>e (Sum.inl.inj z))] at h
  rw [if_neg e]
  cases z:valI (putI L k v) j with
  | none=>
    rw [z] at h
    cases y:valI L j with
    | none=>rfl
    | some u=>rw [y] at h;cases h
  | some w=>
    rw [z] at h
    cases y:valI L j with
    | none=>rw [y] at h;cases h
    | some u=>rw [y] at h;cases h;rfl
theorem zcv {t j:Int}:∀ {ns:List Int} {L:List (Int × Int)},valI (zcu t ns L) j=if j∈ns then some t else valI L j
 | [],L=>by simp [zcu]
 | n::ns,L=>by
   show valI (zcu t ns (putI L n t)) j=_
   rw [zcv (ns:=ns),zjY]
   by_cases a:j∈ns
   ·rw [if_pos a,if_pos (List.mem_cons_of_mem _ a)]
   ·rw [if_neg a]
    by_cases e:j=n
    ·rw [if_pos e,if_pos (by rw [e];exact List.mem_cons_self)]
    ·rw [if_neg e,if_neg (fun z=>(List.mem_cons.mp z).elim e a)]
theorem zfN {j v:Int}:∀ {rs:List (Int × List Int)} {L:List (Int × Int)},valI (zb0 rs L) j=some v→valI L j=some v∨∃r,r∈rs∧r.1=v∧j∈r.2
 | [],L,h=>.inl h
 | r::rs,L,h=>by
   rcases zfN (rs:=rs) h with h | ⟨q,hq,e,hj⟩
   ·rw [zcv] at h
    by_cases a:j∈r.2
    ·rw [if_pos a] at h
     exact .inr ⟨r,List.mem_cons_self,Option.some.inj h,a⟩
    ·rw [if_neg a] at h
     exact .inl h
   ·exact .inr ⟨q,List.mem_cons_of_mem _ hq,e,hj⟩
theorem zc3 {j:Int}:∀ {rs:List (Int × List Int)} {L:List (Int × Int)} {v:Int},rs.Pairwise (fun r q=>r.1<q.1)→(valI L j=some v∧(∀r,r∈rs→v≤r.1))∨(∃r,r∈rs∧r.1=v∧j∈r.2)→∃u,valI (zb0 rs L) j=some u∧v≤u
 | [],L,v,_,h=>by
   rcases h with ⟨h,_⟩ | ⟨r,hr,_⟩
   ·exact ⟨v,h,Int.le_refl _⟩
   ·cases hr
 | r::rs,L,v,p,h=>by
   rw [List.pairwise_cons] at p
   show ∃u,valI (zb0 rs (zcu r.1 r.2 L)) j=some u∧v≤u
   rcases h with ⟨h,le⟩ | ⟨q,hq,e,hj⟩
   ·have lr:=le r List.mem_cons_self
    by_cases a:j∈r.2
    ·obtain ⟨u,h1,h2⟩:=zc3 (rs:=rs) (L:=zcu r.1 r.2 L) (v:=r.1) p.2 (.inl ⟨by rw [zcv,if_pos a],fun q hq=>Int.le_of_lt (p.1 q hq)⟩)
     exact ⟨u,h1,by omega⟩
    ·exact zc3 p.2 (.inl ⟨by rw [zcv,if_neg a];exact h,fun q hq=>le q (List.mem_cons_of_mem _ hq)⟩)
   ·rcases List.mem_cons.mp hq with z | hq
    ·subst z
     refine zc3 p.2 (.inl ⟨by rw [zcv,if_pos hj,e],fun q hq=>?_⟩)
     rw [←e]
     exact Int.le_of_lt (p.1 q hq)
    ·exact zc3 p.2 (.inr ⟨q,hq,e,hj⟩)
def zlx (h:Nat) (b:Int) (d:Ch) (L:List (Int × Int)):Prop:=∀N,(runN h N b d).2=[]→∀j v,valI L j=some v→∃u,valI (zb0 (runN h N b d).1 []) j=some u∧v≤u
theorem Hist.later {h n:Nat} {b:Int} {c0 c d:Ch} {rs:List (Int × List Int)} (gc:GdC c0) (gd:GdC d) (l:LeqC c0 d) (pos:∀k,k∈d→0<k.2) (H:Hist h b c0 n rs c):zlx h b d (zb0 rs []):=by
 intro N e j v hv
 rcases zfN hv with z | ⟨r,hr,rfl,hj⟩
 ·cases z
 obtain ⟨m,em,hm⟩:=(H.leq gc gd l).2 r hr
 have hj:=hm j hj
 have mN:m≤N:=Nat.le_of_not_lt fun z=>by
  have:=zgr e (m-N)
  rw [show N+(m-N)=m by omega] at this
  rw [this] at hj
  cases hj
 have pm:∀k,k∈(runN h m b d).2→0<k.2:=by
  cases m with
  | zero=>exact pos
  | succ m=>
    rw [zaV]
    exact fun k hk=>zd8 hk
 obtain ⟨i,i1,i2,i3⟩:=zfM (N-m) m hj pm (by rw [show m+(N-m)=N by omega];exact e)
 obtain ⟨u,h1,h2⟩:=zc3 (L:=[]) (zkI N).1 (.inr ⟨_,ze0 (show i<N by omega),rfl,i3⟩)
 refine ⟨u,h1,?_⟩
 have h2:b+(i:Int)≤u:=h2
 rw [em]
 omega
section
variable {X:Cx} {pins:List (Addr × Obj)} {σ:St} {H:Hp} {s:Shared}
end
end L2
namespace L2
open PySem PySem.Spec PyProof.Rows
theorem zfO {α β:Type} {F : α → β→Prop}:∀ {l₁:List α} {l₂:List β},l₁.length=l₂.length→(∀(j:Nat) a b,l₁[j]?=some a→l₂[j]?=some b→F a b)→Paired F l₁ l₂
 | [],[],_,_=>.nil
 | a::l₁,b::l₂,h,f=>.cons (f 0 a b rfl rfl) (zfO (by simpa using h) fun j x y hx hy=>f (j+1) x y hx hy)
theorem zeG {α β:Type} {F : α → β→Prop}:∀ {l₁:List α} {l₂:List β},Paired F l₁ l₂→∀ {j:Nat} {a : α} {b : β},l₁[j]?=some a→l₂[j]?=some b→F a b
 | _,_,.nil,j,a,b,h,_=>by simp at h
 | _,_,.cons x r,0,a,b,h1,h2=>by
   cases h1
   cases h2
   exact x
 | _,_,.cons x r,j+1,a,b,h1,h2=>zeG r (j:=j) h1 h2
inductive Shw (K:PySem.W.Frag) (H:Hp):V→Str→Prop
 | non:Shw K H .non "None"
 | bl (b:Bool):Shw K H (.bl b) (if b then "True" else "False")
 | int (i:Int) (h:i.natAbs.log2<1920):Shw K H (.int i) (toString i)
 | str (x:Str) (h:(reprText x).length≤sizeLine):Shw K H (.str x) (reprText x)
 | lst {a:Addr} (i:Int) (h:SqL K H a [.int i]) (hs:(PyData.list [.int i]).showable=true) (hz:(PyData.list [.int i]).shown.length≤sizeLine):Shw K H (.ref a) (PyData.list [.int i]).shown
 | tup {a:Addr} (i:Int) (h:SqT K H a [.int i]) (hs:(PyData.tuple [.int i]).showable=true) (hz:(PyData.tuple [.int i]).shown.length≤sizeLine):Shw K H (.ref a) (PyData.tuple [.int i]).shown
section
variable {X:Cx}
end
section
variable {X:Cx} {tg:Expr}
end
section
variable {X:Cx}
end
end L2
namespace L2
open PySem PySem.Spec PyProof.Rows
abbrev Cel:=Addr × Obj × V
def ze1 (p:Cel):HO:=.ext fun h=>h.get? p.1=some p.2.1
structure CellOk (p:Cel):Prop where
 ex:∃u,p.2.1.data=.cell (some u)∧RelV p.2.2 u
def trc (H:Hp):List Cel→Hp
 | []=>H
 | p::cs=>upd (trc H cs) p.1 (ze1 p)
def drp (H:Hp) (cs:List Cel):Hp:=fun b=>if b∈cs.map (·.1) then none else H b
theorem zbT {H:Hp}:∀ {cs:List Cel} {b:Addr},b∉cs.map (·.1)→trc H cs b=H b
 | [],b,_=>rfl
 | p::cs,b,h=>by
   rw [List.map_cons,List.mem_cons,not_or] at h
   show upd (trc H cs) p.1 (ze1 p) b=_
   rw [zap h.1,zbT h.2]
theorem zg8 {H:Hp} {cs:List Cel} {p:Cel} (nd:(cs.map (·.1)).Nodup) (h:p∈cs):trc H cs p.1=some (ze1 p):=by
 induction cs with
 | nil=>cases h
 | cons q cs ih=>
   rw [List.map_cons,List.nodup_cons] at nd
   show upd (trc H cs) q.1 (ze1 q) p.1=_
   by_cases e:p.1=q.1
   ·have ep:p=q:=by
     rcases List.mem_cons.mp h with z | z
     ·exact z
     ·exact (nd.1 (by rw [←e];exact List.mem_map.mpr ⟨p,z,rfl⟩)).elim
    rw [ep]
    exact zar
   ·rw [zap e]
    refine ih nd.2 ?_
    rcases List.mem_cons.mp h with z | z
    ·exact (e (by rw [z])).elim
    ·exact z
theorem ziV {H:Hp} {cs:List Cel} {b:Addr} (h:b∈cs.map (·.1)):drp H cs b=none:=if_pos h
theorem zdx {H:Hp} {cs:List Cel} {b:Addr} (h:b∉cs.map (·.1)):drp H cs b=H b:=if_neg h
theorem zc4 {H:Hp} {cs:List Cel} {b:Addr} (h:H b=none):drp H cs b=none:=by
 unfold drp
 split
 ·rfl
 ·exact h
theorem zjZ {H:Hp} {cs:List Cel} {b:Addr} {u:HO} (h:drp H cs b=some u):b∉cs.map (·.1)∧H b=some u:=by
 unfold drp at h
 split at h
 ·cases h
 ·next z=>exact ⟨z,h⟩
theorem zbn {H:Hp} {cs:List Cel} {b:Addr} {u:HO} (hc:∀p,p∈cs→H p.1=none∨∃ φ,H p.1=some (.ext φ)) (hu:∀ φ,u≠.ext φ) (e:H b=some u):b∉cs.map (·.1):=fun z=>by
 obtain ⟨p,hp,rfl⟩:=List.mem_map.mp z
 rcases hc p hp with h | ⟨φ,h⟩
 ·rw [h] at e
  cases e
 ·rw [h] at e
  cases e
  exact hu φ rfl
theorem zmB {P:Program} {w:World} {H:Hp} {h:Heap} {cs:List Cel} (hc:∀p,p∈cs→H p.1=none∨∃ φ,H p.1=some (.ext φ)) (x:HOk P w H h):HOk P w (drp H cs) h:=fun b u e=>by
 obtain ⟨_,e⟩:=zjZ e
 exact (x b u e).stay (fun _ _ _ q=>q) (fun c q=>by rw [zdx (zbn hc (fun φ z=>by cases z) q)];exact q) (fun c xs q=>by rw [zdx (zbn hc (fun φ z=>by cases z) q)];exact q) fun c ob xs q=>by rw [zdx (zbn hc (fun φ z=>by cases z) q)];exact q
theorem zkJ {P:Program} {w:World} {H:Hp} {h:Heap} {cs:List Cel} (nd:(cs.map (·.1)).Nodup) (hc:∀p,p∈cs→H p.1=none∧h.get? p.1=some p.2.1) (x:HOk P w H h):HOk P w (trc H cs) h:=fun b u e=>by
 by_cases z:b∈cs.map (·.1)
 ·obtain ⟨p,hp,rfl⟩:=List.mem_map.mp z
  rw [zg8 nd hp] at e
  cases e
  exact ⟨(hc p hp).2,⟨_,(hc p hp).2⟩,fun h1 h2 e k=>k _ e⟩
 ·rw [zbT z] at e
  have hc':∀p,p∈cs→H p.1=none∨∃ φ,H p.1=some (.ext φ):=fun p hp=>.inl (hc p hp).1
  exact (x b u e).stay (fun _ _ _ q=>q) (fun c q=>by rw [zbT (zbn hc' (fun φ z=>by cases z) q)];exact q) (fun c xs q=>by rw [zbT (zbn hc' (fun φ z=>by cases z) q)];exact q) fun c ob xs q=>by rw [zbT (zbn hc' (fun φ z=>by cases z) q)];exact q
theorem zg9 {H:Hp} {cs:List Cel} (h:∀p,p∈cs→H p.1=none):Same H (trc H cs):=fun b o e=>by
 rw [zbT]
 ·exact e
 ·intro z
  obtain ⟨p,hp,rfl⟩:=List.mem_map.mp z
  rw [h p hp] at e
  cases e
theorem zmC {fs:List Addr} {H H':Hp} {h h':Heap} {cs:List Cel} (hc:∀p,p∈cs→H p.1=some (ze1 p)) (u:Un fs [] (drp H cs) H' h h'):Un fs [] H (trc H' cs) h h':=by
 have hn:∀p,p∈cs→H p.1=none∨∃ φ,H p.1=some (.ext φ):=fun p hp=>.inr ⟨_,hc p hp⟩
 have no:∀ {b:Addr},H b=none→b∉cs.map (·.1):=fun {b} n z=>by
  obtain ⟨p,hp,rfl⟩:=List.mem_map.mp z
  rw [hc p hp] at n
  cases n
 refine ⟨fun b o e n hb hx=>u.keep b o e (zc4 n) hb hx,fun b o e n hb hx=>u.slot b o e (zc4 n) hb hx,fun b o e n hx=>?_,u.there,fun b xs e=>?_,fun b o v e=>?_,fun b lp lq e=>?_⟩
 ·rw [zbT (no n)]
  exact u.free b o e (zc4 n) hx
 ·have z:=zbn hn (fun φ z=>by cases z) e
  rw [zbT z]
  exact u.tups b xs (by rw [zdx z];exact e)
 ·have z:=zbn hn (fun φ z=>by cases z) e
  rw [zbT z]
  exact u.frzs b o v (by rw [zdx z];exact e)
 ·have z:=zbn hn (fun φ z=>by cases z) e
  rw [zbT z]
  exact u.tbls b lp lq (by rw [zdx z];exact e)
structure FnV (P:Program) (w:World) (K:PySem.W.Frag) (mg:Str→Option Value) (base:Heap) (k:Nat) (H:Hp) (f:Addr) (sp:Sp):Prop where
 obj:∃o fd,H f=some (.frz o (.own f))∧o.data=.func fd
 run:∀(A:Around) (outer:List Env) (s:Shared) (H1:Hp) (us:List Value) (vs:List V) (Q:VK),Room k A→Env0 P w K mg base A outer s H1→Same H H1→Vals vs us→sp vs H1 Q E0→
  codeAny (model P w) A (.call (.ref f) ⟨us,[]⟩) (fun r s'=>∃u,r=.ok (.ret u)∧CE outer P w H1 s Q u s') s
theorem FnV.same {P:Program} {w:World} {K:PySem.W.Frag} {mg:Str→Option Value} {base:Heap} {k:Nat} {H H':Hp} {f:Addr} {sp:Sp} (s:Same H H') (F:FnV P w K mg base k H f sp):FnV P w K mg base k H' f sp:=
 ⟨let ⟨o,fd,e,d⟩:=F.obj;⟨o,fd,s _ _ e,d⟩,fun A outer s1 H1 us vs Q hr e sm=>F.run A outer s1 H1 us vs Q hr e (s.trans sm)⟩
theorem FnV.imp {P:Program} {w:World} {K:PySem.W.Frag} {mg:Str→Option Value} {base:Heap} {k:Nat} {H:Hp} {f:Addr} {sp sp':Sp} (h:∀vs H1 Q,Same H H1→sp' vs H1 Q E0→sp vs H1 Q E0) (F:FnV P w K mg base k H f sp):FnV P w K mg base k H f sp':=
 ⟨F.obj,fun A outer s1 H1 us vs Q hr e sm r q=>F.run A outer s1 H1 us vs Q hr e sm r (h vs H1 Q sm q)⟩
section
variable {X:Cx} {k i:Nat} {x:Str} {p pos:Pos} {e:Expr} {es:List Expr} {t:TA}
def znm (X:Cx) (k i:Nat) (t:TA):TE:=fun σ H Q=>∃f,σ[i]?=some (some (.ref f))∧t σ H fun vs H1=>∃sp,FnV X.prog X.w X.K X.mg X.base k H1 f sp∧sp vs H1 Q E0
theorem zly (hr:Room k X.A) (ha:PA X (e::es) t) (hN:X.N[i]?=some x:=by rfl) (hv:Vis X.env.scope x:=by first | exact Or.inl rfl | exact Or.inr (Or.inl rfl) | exact Or.inr (Or.inr rfl)) (hdb:(x==("__debug__" : Str))=false:=by decide) (hcd:(x==("__classdict__" : Str))=false:=by decide)
  (he:starEach (e::es) X.env=(false,eval e X.env)::starEach es X.env:=by rfl) (hpl:(backTo pos (starEach es X.env)).any (·.1)=false:=by rfl):
  PE X (.Call (.Name x p) (e::es) [] pos) (znm X k i t):=by
 have hvar:=zko (pos:=p) hN hv hdb hcd
 with_unfolding_all
  intro pins s σ H Q I h
  obtain ⟨f,ef,h⟩:=h
  refine wpAny_Call_Name_kw (thn (hvar pins s σ H (fun v H'=>v=.ref f∧t σ H' fun vs H1=>∃sp,FnV X.prog X.w X.K X.mg X.base k H1 f sp∧sp vs H1 Q E0) I ⟨.ref f,ef,rfl,h⟩) fun u s1 ⟨v,H1,I1,r1,ev,q1⟩=>?_)
  subst ev
  cases r1
  rw [he]
  refine PySem.W.callWith_of (P:=fun hh=>∃o fd,hh.get? f=some o∧o.data=.func fd) (by show ((false||(backTo pos (starEach es X.env)).any (·.1))||false)=false;rw [hpl];rfl) (fun hh ⟨o,fd,e1,e2⟩=>?_) (Calls.evalArgs_plain ?_)
  ·obtain ⟨oc,od,dt,sl⟩:=o
   cases (show dt=.func fd from e2)
   exact ⟨.frame,.inl rfl,(PySem.W.Looks.ld (part:=none) e1).andThen .now⟩
  have ha':=ha pos pins s1 σ H1 _ I1 q1
  rw [he] at ha'
  refine thn ha' fun us s2 ⟨vs,H2,I2,rv,sp,F,q2⟩=>?_
  obtain ⟨o,fd,e1,e2⟩:=F.obj
  refine ⟨⟨o,fd,(I2.hok f _ e1).1,e2⟩,wpAny_call (codeAny_mono (F.run X.A X.stack s2 H2 us vs Q hr I2.env0 (Same.refl _) rv q2) fun r s' ⟨u,er,ce⟩=>?_)⟩
  subst er
  exact I2.after ce
end
abbrev cxV (P:Program) (w:World) (K:PySem.W.Frag) (mg:Str→Option Value) (base:Heap) (N:List Str) (scope:Scope) (cl:List (Str × Addr)) (q:Str) (f:Addr) (cd:Value) (A:Around) (outer:List Env) (s₀:Shared) (H₀:Hp):Cx where
 prog:=P
 w:=w
 K:=K
 mg:=mg
 base:=base
 A:=A.deeper (newEnv scope s₀.heap.objs.size mainGlobals cl (q ++ ".<locals>.") (some f) cd none builtinsNs)
 N:=N
 s₀:=s₀
 H₀:=H₀
 env:=newEnv scope s₀.heap.objs.size mainGlobals cl (q ++ ".<locals>.") (some f) cd none builtinsNs
 outer:=outer
 stack:=newEnv scope s₀.heap.objs.size mainGlobals cl (q ++ ".<locals>.") (some f) cd none builtinsNs::outer
 ex:=[]
 fn:=fun _=>false
 calm:=true
 pn:=[]
 xe:=fun _ _=>False
structure LScope (scope:Scope) (x:Str) (N:List Str):Prop where
 kind:scope.kind=.function
 nocell:∀y∈scope.names,y.2≠.cell
 own:scope.names.lookup x=some .local
 head:N[0]?=some x
 apart:∀y,scope.names.lookup y=some .local→(y,NameKind.free)∉scope.names
structure CloV (H:Hp) (q:Str) (ar:Arguments) (body:Expr) (scope:Scope) (f:Addr) (cl:List (Str × Addr)) (N:List Str) (cs:List Cel):Prop where
 ex:∃pm c ct oc us t o,H f=some (.frz o (.own f))∧o.data=.func (PySem.W.kla_fn "<lambda>" q ar body scope cl pm (.ref c) ct)∧H c=some (.frz oc (.own c))∧oc.data=.fields us∧us[1]?=some (.str q t)
 inj:∀y z c,cl.lookup y=some c→cl.lookup z=some c→y=z
 has:∀x,(x,NameKind.free)∈scope.names→∃c,cl.lookup x=some c
 cov:∀x c,cl.lookup x=some c→∃p,p∈cs∧p.1=c
 len:N.length=cs.length+1
 cap:∀(k:Nat) (p:Cel) (y:Str),N[k+1]?=some y→cs[k]?=some p→cl.lookup y=some p.1∧(y,NameKind.free)∈scope.names
 cel:∀p,p∈cs→H p.1=some (ze1 p)∧CellOk p
 nd:(cs.map (·.1)).Nodup
theorem CloV.same {H H':Hp} {q:Str} {ar:Arguments} {body:Expr} {scope:Scope} {f:Addr} {cl:List (Str × Addr)} {N:List Str} {cs:List Cel} (s:Same H H') (C:CloV H q ar body scope f cl N cs):CloV H' q ar body scope f cl N cs:=by
 obtain ⟨pm,c,ct,oc,us,t,o,e1,e2,e3,e4⟩:=C.ex
 exact ⟨⟨pm,c,ct,oc,us,t,o,s _ _ e1,e2,s _ _ e3,e4⟩,C.inj,C.has,C.cov,C.len,C.cap,fun p hp=>⟨s _ _ (C.cel p hp).1,(C.cel p hp).2⟩,C.nd⟩
theorem zlz {P:Program} {w:World} {K:PySem.W.Frag} {mg:Str→Option Value} {base:Heap} {A:Around} {outer:List Env} {s:Shared} {H:Hp} {q:Str} {ar:Arguments} {body:Expr} {scope:Scope} {x:Str} {f:Addr} {cl:List (Str × Addr)} {N:List Str} {cs:List Cel} {te:TE} {v:V} {u:Value} {Q:VK}
  (e0:Env0 P w K mg base A outer s H) (S:LScope scope x N) (C:CloV H q ar body scope f cl N cs) (hh:A.handled=none) (hdp:A.depth<recursionLimit) (co:scope.isCoroutine=false) (ge:scope.isGenerator=false)
  (hb:∀pm c ct u,bindArgs (PySem.W.kla_fn "<lambda>" q ar body scope cl pm c ct) ⟨[u],[]⟩=pure [(x,u)])
  (he:∀cd,PE (cxV P w K mg base N scope cl q f cd A outer s (drp H cs)) body te) (rv:RelV v u) (hq:te (some v::cs.map fun p=>some p.2.2) (drp H cs) fun r H'=>Q r (trc H' cs)):
  codeAny (model P w) A (.call (.ref f) ⟨[u],[]⟩) (fun r s'=>∃k,r=.ok (.ret k)∧CE outer P w H s Q k s') s:=by
 with_unfolding_all
  obtain ⟨pm,c,ct,oc,us,t,o,e1,e2,e3,e4,e5⟩:=C.ex
  obtain ⟨g1,_⟩:=e0.hok f _ e1
  obtain ⟨g2,_⟩:=e0.hok c _ e3
  have gc:∀p,p∈cs→s.heap.get? p.1=some p.2.1:=fun p hp=>(e0.hok p.1 _ (C.cel p hp).1).1
  have hn:∀p,p∈cs→H p.1=none∨∃ φ,H p.1=some (.ext φ):=fun p hp=>.inr ⟨_,(C.cel p hp).1⟩
  have lim:s.heap.NoLimit:=e0.mod.nolimit.keeps fun b o e=>(e0.bs b o e).1
  refine PySem.W.kla_callFunE hdp g1 e2 co ge rfl ⟨c,oc,us,t,rfl,g2,e4,e5⟩ ?_
  rw [hb]
  refine wpAny_pure (wpAny_newFunctionEnv S.nocell (fun y hy=>?_) (fun h₁ hns hsb=>?_) S.kind)
  ·have hy':y=(x,u):=by simpa using hy
   subst hy'
   exact S.own
  have old:∀b o,s.heap.get? b=some o→h₁.get? b=some o:=fun b o e=>hsb.extBut b o (Nat.ne_of_lt (Heap.lt_size e)) (Heap.get?_push_of_some _ e)
  refine ⟨lim.keeps old,?_⟩
  have hokD:HOk P w (drp H cs) s.heap:=zmB hn e0.hok
  have yok:(cxV P w K mg base N scope cl q f (.ref c) A outer s (drp H cs)).Ok:=
   { mod:=e0.mod
     kind:=S.kind
     glob:=rfl
     blt:=rfl
     above:=Nat.le_refl _
     inj:=C.inj
     has:=fun y hy=>by
      rcases hy with hy | hy
      ·exact absurd rfl (S.nocell _ (PySem.mem_of_lookup hy))
      ·exact C.has y (PySem.mem_of_lookup hy)
     cab:=fun y c hf _=>by cases hf
     hd:=fun _=>hh
     frames:=Around.frames_deeper e0.frames
     stk:=.inr ⟨rfl,rfl⟩
     exf:=fun b hb=>by simp at hb
     bs:=fun b o e=>⟨(e0.bs b o e).1,zc4 (e0.bs b o e).2⟩
     bsz:=e0.bsz
     noex:=fun b o e hb=>by simp at hb
     exfs:=fun b hb=>by simp at hb
     funs:=e0.funs
     frf:=fun b hb=>zc4 (e0.frf b hb) }
  have I1:Inv (cxV P w K mg base N scope cl q f (.ref c) A outer s (drp H cs)) [] (some v::cs.map fun p=>some p.2.2) (drp H cs) { s with heap:=h₁,toks:=s.toks+[(x,u)].length }:=
   { ok:=yok
     os:=rfl
     bare:=e0.bare
     base:=Un.kept old
     loc:=by
      refine ⟨_,hns,fun i y v' h1 h2 h3=>?_⟩
      cases i with
      | zero=>
        have ey:y=x:=Option.some.inj (h1.symm.trans S.head)
        subst ey
        have ev:v'=v:=by simpa using h2.symm
        subst ev
        exact ⟨u,rv,.inl ⟨S.own,by simp⟩⟩
      | succ k=>
        have h2':(cs.map fun p=>some p.2.2)[k]?=some (some v'):=by simpa using h2
        rw [List.getElem?_map] at h2'
        cases ep:cs[k]? with
        | none=>rw [ep] at h2';cases h2'
        | some p=>
          rw [ep] at h2'
          have ev:p.2.2=v':=by
           have:=Option.some.inj h2'
           exact Option.some.inj this
          subst ev
          have hp:=List.mem_of_getElem? ep
          obtain ⟨c1,c2⟩:=C.cap k p y h1 ep
          obtain ⟨u',d1,ru⟩:=(C.cel p hp).2.ex
          refine ⟨u',ru,.inr ⟨?_,p.1,c1,⟨p.2.1,old _ _ (gc p hp),d1⟩⟩⟩
          have h3':scope.names.lookup y=some .local∨scope.names.lookup y=some .cell∨scope.names.lookup y=some .free:=h3
          rcases h3' with z | z | z
          ·exact absurd c2 (S.apart y z)
          ·exact .inl z
          ·exact .inr z
     cell:=fun y d e=>by
      obtain ⟨p,hp,ep⟩:=C.cov y d e
      obtain ⟨u',d1,ru⟩:=(C.cel p hp).2.ex
      exact ⟨some u',p.2.1,by rw [←ep];exact old _ _ (gc p hp),d1⟩
     free:=hokD.fresh (Nat.le_refl _)
     freeC:=fun y d e=>by
      obtain ⟨p,hp,ep⟩:=C.cov y d e
      rw [←ep]
      exact ziV (List.mem_map.mpr ⟨p,hp,rfl⟩)
     pin:=fun p hp=>by simp at hp
     hok:=hokD.kept old
     len:=by show (some v::cs.map fun p=>some p.2.2).length=N.length;rw [C.len];simp }
  refine PySem.W.kla_codeExpr (wpAny_mono (he (.ref c) [] _ _ (drp H cs) _ I1 hq) (fun k s' hk=>?_) fun _ _ z=>z.elim)
  obtain ⟨r,H',J,rk,qk⟩:=hk
  have un:Un (frs outer) [] H (trc H' cs) s.heap s'.heap:=zmC (fun p hp=>(C.cel p hp).1) J.base
  have nf:∀p,p∈cs→p.1∉frs outer:=fun p hp z=>by
   have:=e0.frf p.1 z
   rw [(C.cel p hp).1] at this
   cases this
  refine ⟨k,rfl,r,trc H' cs,J.os,J.bare,un,zkJ C.nd (fun p hp=>⟨?_,?_⟩) J.hok,rk,qk⟩
  ·exact J.base.free p.1 p.2.1 (gc p hp) (ziV (List.mem_map.mpr ⟨p,hp,rfl⟩)) (by simp)
  ·exact J.base.keep p.1 p.2.1 (gc p hp) (ziV (List.mem_map.mpr ⟨p,hp,rfl⟩)) (nf p hp) (by simp)
theorem zci {α:Type} (R:Nat → α→Prop):∀n,(∀k,k<n→∃a,R k a)→∃l:List α,l.length=n∧∀k a,l[k]?=some a→R k a
 | 0,_=>⟨[],rfl,fun k a h=>by simp at h⟩
 | n+1,h=>by
   obtain ⟨l,e,r⟩:=zci R n fun k hk=>h k (by omega)
   obtain ⟨a,ha⟩:=h n (by omega)
   refine ⟨l++[a],by rw [List.length_append,e];rfl,fun k b hb=>?_⟩
   by_cases z:k<n
   ·rw [List.getElem?_append_left (by omega)] at hb
    exact r k b hb
   ·rw [List.getElem?_append_right (by omega),e] at hb
    cases y:k-n with
    | zero=>
      rw [y] at hb
      cases hb
      rw [show k=n by omega]
      exact ha
    | succ j=>rw [y] at hb;cases hb
def tLam (X:Cx) (T:Addr) (lp:Pos) (q:Str) (ar:Arguments) (body:Expr) (scope:Scope):TE:=fun σ H Q=>H T=some (.tbl lp q)∧∀f cl H',Same H H'→Lam X H' q ar body scope f cl→Q (.ref f) H'
theorem zmD {X:Cx} {ar:Arguments} {body:Expr} {scope:Scope} {lp:Pos} {q x:Str} {N:List Str} {js:List Nat} {T:Addr} (S:CompScope X scope x N js) (D:Site X.K X.mg X.base X.env.code T) (hq:X.env.qual ++ "<lambda>" = q) (hd:defaultsOf ar X.env=([],[]):=by rfl):
  PE X (.Lambda ar body scope lp) (tLam X T lp q ar body scope):=by
 with_unfolding_all
  intro pins s σ H Q I h
  exact zg2 I S D h.1 hq hd fun f cl s' H' I' sm L=>⟨.ref f,H',I',rfl,h.2 f cl H' sm L⟩
def zmE (te:TE) (cs:List Cel):Sp:=fun vs H Q _=>∃v,vs=[v]∧te (some v::cs.map fun p=>some p.2.2) (drp H cs) fun r H'=>Q r (trc H' cs)
end L2
namespace L2
open PySem PySem.Spec PyProof.Rows PySem.W
theorem ziW {P:Program} {w:World} {K:Frag} {mg mb:Str→Option Value} {k:Nat} {fa a:Addr} {fd:FuncData} {x:Str} {ts:List (Addr × Pos × Str)} {sp:Sp} {s₁:Shared} {vs:List Value} {ns:List Int}
  (KX:K.In s₁.heap) (kt:zd5 K=true) (hns:s₁.heap.Ns mainGlobals mg) (hb:s₁.heap.Ns builtinsNs mb) (hbb:∀x:Str,x ≠ "__name__" → mb x=bootBuiltins x) (hlim:s₁.heap.NoLimit) (hg:s₁.gens = #[])
  (ha:s₁.heap.get? a=some { cls:=.type "list",data:=.seq vs.toArray }) (hi:IntsAre vs ns) (hl:ns.length≤sizeLine) (hr:Room k callerA)
  (hT:∀b v,ts.lookup b=some v→s₁.heap.get? b=some (tabObj #[])) (hct:∀b v,ts.lookup b=some v→isCodeTable s₁.heap b)
  (F:∀base:Heap,K.In base→base.Ns mainGlobals mg→(∀b o,s₁.heap.get? b=some o→ts.lookup b=none→b≠a→base.get? b=some o)→FnOk P w K mg base CX0 k fa fd [x] sp) (hbind:∀(s:Shared) (u:Value),BindsTo s fd ⟨[u],[]⟩ [(x,u)])
  (hsp:∀H:Hp,(∀b v,ts.lookup b=some v→H b=some (.tbl v.1 v.2))→SqL K H a (ns.map V.int)→sp [.ref a] H (fun v _=>v=.bl true) fun _ _ _=>False):
  codeAny (model P w) callerA (.call (.ref fa) ⟨[.ref a],[]⟩) (fun r s'=>r=.ok (.ret (.bool true))∧OldK s₁.heap s'.heap∧s'.os=s₁.os∧AllBare s'.gens) s₁:=by
 have rv:=zfB hi
 have lenV:=hi.length
 have aT:ts.lookup a=none:=by
  cases z:ts.lookup a with
  | none=>rfl
  | some v=>
    have:=hT a v z
    rw [ha] at this
    cases this
 have core:∀H:Hp,(∀b v,ts.lookup b=some v→H b=some (.tbl v.1 v.2))→SqL K H a (ns.map V.int)→(∀b u,H b=some u→(∃v,ts.lookup b=some v)∨(b=a∧u=.frz { cls:=.type "list",data:=.seq vs.toArray } (.lst (ns.map V.int))))→(H a≠none→K.lookup a=none)→
   codeAny (model P w) callerA (.call (.ref fa) ⟨[.ref a],[]⟩) (fun r s'=>r=.ok (.ret (.bool true))∧OldK s₁.heap s'.heap∧s'.os=s₁.os∧AllBare s'.gens) s₁:=by
  intro H hHT hS hO hK
  have hok:HOk P w H s₁.heap:=fun b u e=>by
   rcases hO b u e with ⟨v,z⟩ | ⟨z,rfl⟩
   ·rw [hHT b v z] at e
    cases e
    exact ⟨#[],hT b v z,trivial,.inl rfl⟩
   ·subst z
    exact ⟨ha,by rw [List.length_map];exact hl,vs,_,rv,ha⟩
  have base_of:∀ {b:Addr} {o:Obj},s₁.heap.get? b=some o→H b=none→(hidT s₁.heap H).get? b=some o:=fun e n=>zjp e n
  have no:∀b,ts.lookup b=none→b≠a→H b=none:=fun b n1 n2=>by
   cases z:H b with
   | none=>rfl
   | some u=>
     rcases hO b u z with ⟨v,y⟩ | y
     ·rw [n1] at y
      cases y
     ·exact absurd y.1 n2
  have noA:∀ {b:Addr} {o:Obj} {es:Array DictEntry} {ep:Nat},s₁.heap.get? b=some o→o.data=.dict es ep→H b=none:=fun {b o es ep} e d=>by
   refine no b ?_ fun z=>?_
   ·cases z:ts.lookup b with
    | none=>rfl
    | some v=>
      rw [hT b v z] at e
      cases e
      cases d
   ·rw [z,ha] at e
    cases e
    cases d
  have nsK:∀ {b:Addr} {m:Str→Option Value},s₁.heap.Ns b m→(hidT s₁.heap H).Ns b m:=fun {b m} ⟨o,es,ep,e,d,r⟩=>⟨o,es,ep,base_of e (noA e d),d,r⟩
  have hKb:K.In (hidT s₁.heap H):=fun b o e=>base_of (KX b o e) (by
   cases z:H b with
   | none=>rfl
   | some u=>
     rcases hO b u z with ⟨v,y⟩ | y
     ·have e':=KX b o e
      rw [hT b v y] at e'
      cases e'
      exact absurd e (zeD kt)
     ·have e2:=hK (by rw [←y.1,z];simp)
      rw [←y.1,e] at e2
      cases e2)
  have hM:Mod K mg (hidT s₁.heap H):=⟨hKb,nsK hns,⟨mb,nsK hb,hbb⟩,let ⟨mc,h1,h2⟩:=hlim;⟨mc,nsK h1,h2⟩⟩
  have e0:Env0 P w K mg (hidT s₁.heap H) callerA [] s₁ H:=⟨rfl,hM,fun b o e=>zkW e,Nat.le_of_eq (zhW _ _),trivial,fun b hb=>absurd (show b∈([]:List Addr) from hb) (by simp),hok,.of_eq hg⟩
  refine codeAny_mono ((F _ hKb (nsK hns) fun b o e n1 n2=>base_of e (no b n1 n2)).run callerA [] s₁ H ⟨[.ref a],[]⟩ [.ref a] [.ref a] _ _ hr e0 (hbind s₁ (.ref a)) (.cons rfl .nil) (hsp H hHT hS)) fun r s' h=>?_
  cases r with
  | error e=>exact False.elim h
  | ok fl=>
    cases fl with
    | next=>exact False.elim h
    | brk=>exact False.elim h
    | cont=>exact False.elim h
    | ret u=>
      obtain ⟨v,H',os,bare,un,hok',r',qv⟩:=h
      have qv':v=.bl true:=qv
      subst qv'
      obtain rfl:u=Value.bool true:=r'
      have kp:∀b o,ts.lookup b=none→s₁.heap.get? b=some o→s'.heap.get? b=some o:=fun b o n e=>by
       cases z:H b with
       | none=>exact un.keep b o e z (by intro z;exact absurd (show b∈([]:List Addr) from z) (by simp)) (by simp)
       | some u=>
         rcases hO b u z with ⟨v,y⟩ | ⟨y,rfl⟩
         ·rw [n] at y
          cases y
         ·have z2:=un.frzs b _ _ z
          obtain ⟨e2,_⟩:=hok' b _ z2
          subst y
          rw [ha] at e
          cases e
          exact e2
      have tb:∀b v,ts.lookup b=some v→∃ws:Array Value,s'.heap.get? b=some { cls:=.none,data:=.fields ws }:=fun b v z=>by
       obtain ⟨ws,g1,_⟩:=hok' b _ (un.tbls b v.1 v.2 (hHT b v z))
       exact ⟨ws,g1⟩
      refine ⟨rfl,⟨fun b o e=>?_,fun b o e=>?_⟩,os,bare⟩
      ·cases z:ts.lookup b with
       | none=>exact .inl (kp b o z e)
       | some v=>
         obtain ⟨ws,g1⟩:=tb b v z
         rw [hT b v z] at e
         cases e
         exact .inr (.inl ⟨hct b v z,rfl,#[],ws,rfl,by simpa using g1⟩)
      ·cases z:ts.lookup b with
       | none=>exact ⟨o,kp b o z e⟩
       | some v=>
         obtain ⟨ws,g1⟩:=tb b v z
         exact ⟨_,g1⟩
 cases hk:K.lookup a with
 | some o=>
   have e:=KX a o hk
   rw [ha] at e
   cases e
   refine core (fun b=>(ts.lookup b).map fun v=>.tbl v.1 v.2) (fun b v z=>by show Option.map _ (ts.lookup b)=_;rw [z];rfl) (.inr ⟨_,vs.toArray,_,hk,rfl,rfl,rfl,by rw [List.size_toArray,lenV];exact hl,by simpa using rv⟩) (fun b u z=>?_) fun z=>absurd (show Option.map _ (ts.lookup a)=none by rw [aT];rfl) z
   have z:Option.map (fun v:Pos × Str=>HO.tbl v.1 v.2) (ts.lookup b)=some u:=z
   cases y:ts.lookup b with
   | none=>rw [y] at z;cases z
   | some v=>exact .inl ⟨v,rfl⟩
 | none=>
   refine core (fun b=>match ts.lookup b with | some v=>some (.tbl v.1 v.2) | none=>if b=a then some (.frz { cls:=.type "list",data:=.seq vs.toArray } (.lst (ns.map V.int))) else none) (fun b v z=>by show (match ts.lookup b with | some v=>some (HO.tbl v.1 v.2) | none=>_)=_;rw [z]) (.inl (.inr ⟨{ cls:=.type "list",data:=.seq vs.toArray },?_⟩)) (fun b u z=>?_) fun _=>hk
   ·show (match ts.lookup a with | some v=>some (HO.tbl v.1 v.2) | none=>_)=_
    rw [aT]
    exact if_pos rfl
   ·have z:(match ts.lookup b with | some v=>some (HO.tbl v.1 v.2) | none=>if b=a then some (.frz { cls:=.type "list",data:=.seq vs.toArray } (.lst (ns.map V.int))) else none)=some u:=z
    cases y:ts.lookup b with
    | some v=>exact .inl ⟨v,rfl⟩
    | none=>
      rw [y] at z
      by_cases hb2:b=a
      ·have z:(if b=a then some (HO.frz { cls:=.type "list",data:=.seq vs.toArray } (.lst (ns.map V.int))) else none)=some u:=z
       rw [if_pos hb2] at z
       cases z
       exact .inr ⟨hb2,rfl⟩
      ·have z:(if b=a then some (HO.frz { cls:=.type "list",data:=.seq vs.toArray } (.lst (ns.map V.int))) else none)=some u:=z
       rw [if_neg hb2] at z
       cases z
def zhG (K:Frag) (cv:Value):Option Addr:=match cv with
 | Value.ref c=>(match K.lookup c with
   | some o=>(match o.data with
     | .fields vs=>(match (vs[11]?:Option Value) with
       | some (Value.ref T)=>some T
       | _=>none)
     | _=>none)
   | none=>none)
 | _=>none
def zhH (K:Frag) (a b:Value):Bool:=match zhG K a,zhG K b with
 | some x,some y=>x != y
 | _,_=>false
theorem zkK {K:Frag} {h:Heap} (X:K.In h) {c P:Addr} {ps:Array Value} (t:h.TableAt c P ps) {T:Addr} (e:zhG K (.ref c)=some T):T=P:=by
 obtain ⟨⟨o,vs,h1,_,h3,h4⟩,_⟩:=t
 unfold zhG at e
 cases z:K.lookup c with
 | none=>simp only [z] at e;cases e
 | some o'=>
   have:=X c o' z
   rw [h1] at this
   cases this
   simp only [z,h3,h4] at e
   exact (Option.some.inj e).symm
theorem zmF {K:Frag} {h:Heap} (X:K.In h) {c d P R:Addr} {ps rs:Array Value} (t:h.TableAt c P ps) (u:h.TableAt d R rs) (e:zhH K (.ref c) (.ref d)=true):P≠R:=by
 unfold zhH at e
 cases z:zhG K (.ref c) with
 | none=>rw [z] at e;cases e
 | some x=>
   cases y:zhG K (.ref d) with
   | none=>rw [z,y] at e;cases e
   | some v=>
     rw [z,y] at e
     have:=zkK X t z
     have:=zkK X u y
     subst_vars
     intro q
     rw [q] at e
     simp at e
theorem walk_of2 {l:OpenLaw} {n k:Nat} {qp:Program} {loose:List Str} {XP:(Str→Option Value)→Heap→Prop} {YP:World→Heap→Prop} {d:DefRec} {K:Params→Frag} {sp:Frag→Addr→Addr→Sp} {x g g':Str} {lp lp':Pos} {q q':Str}
  (hn:l.most=some n) (hn2:n≤sizeLine) (hdf:d.params.defaults=[]) (hr:Room k callerA)
  (hY:∀(w:World) (h:Heap),YP w h→(K w.params).In h) (hK:∀p,zd5 (K p)=true) (hrec:∃dr,(recsOf qp).find? (fun e=>e.name==g)=some dr) (hrec':∃dr,(recsOf qp).find? (fun e=>e.name==g')=some dr)
  (F:∀(w:World) (mg:Str→Option Value) (fa:Addr) (h:Heap),(K w.params).In h→h.Ns mainGlobals mg→mg d.name=some (.ref fa)→
    ∃(fd fg fg':FuncData) (ag ag':Addr) (og og':Obj),(∀(s:Shared) (u:Value),BindsTo s fd ⟨[u],[]⟩ [(x,u)])∧mg g=some (.ref ag)∧(K w.params).lookup ag=some og∧og.data=.func fg∧mg g'=some (.ref ag')∧(K w.params).lookup ag'=some og'∧og'.data=.func fg'∧zhH (K w.params) fg.code fg'.code=true∧
     ∀T T' (base:Heap),(K w.params).In base→base.Ns mainGlobals mg→Site (K w.params) mg base fg.code T→Site (K w.params) mg base fg'.code T'→FnOk l.prog w (K w.params) mg base CX0 k fa fd [x] (sp (K w.params) T T'))
  (hsp:∀(K:Frag) (T T':Addr) (H:Hp) (a:Addr) (ns:List Int),ns.length≤n→H T=some (.tbl lp q)→H T'=some (.tbl lp' q')→SqL K H a (ns.map V.int)→sp K T T' [.ref a] H (fun v _=>v=.bl true) fun _ _ _=>False):
  WalkO qp loose XP YP l.row.toRowW d [] (fun f vs=>PySem.call f vs):=by
 refine Att.attach_call hn hdf fun w s₀ s₁ mg mb fa o pm cd doc a vs ns G Y ho hd hcd hmg hobj hints hlen hg=>?_
 have KX:=hY w _ Y
 obtain ⟨fd,fg,fg',ag,ag',og,og',hb,hmg2,hlk,hog,hmg3,hlk',hog',hne,hF⟩:=F w mg fa _ KX G.T.g hmg
 have tabF:∀ {g:Str} {ag:Addr} {og:Obj} {fg:FuncData},(∃dr,(recsOf qp).find? (fun e=>e.name==g)=some dr)→mg g=some (.ref ag)→(K w.params).lookup ag=some og→og.data=.func fg→∃c T,fg.code=.ref c∧s₁.heap.IsCode c T #[]∧s₁.heap.TableAt c T #[]:=fun {g ag og fg} hrec hmg2 hlk hog=>by
  obtain ⟨dr,hdr⟩:=hrec
  have hnm:dr.name=g:=beq_iff_eq.mp (List.find?_some (p:=fun e:DefRec=>e.name==g) hdr)
  obtain ⟨a',o',fd',c,T,h1,h2,h3,h4,h5,h6⟩:=G.T.tab dr (List.mem_of_find?_eq_some hdr)
  rw [hnm,hmg2] at h1
  cases h1
  have h2':=KX ag og hlk
  rw [h2] at h2'
  cases h2'
  rw [hog] at h3
  cases h3
  exact ⟨c,T,h4,h5,h6⟩
 obtain ⟨c,T,h4,h5,h6⟩:=tabF hrec hmg2 hlk hog
 obtain ⟨c',T',h4',h5',h6'⟩:=tabF hrec' hmg3 hlk' hog'
 rw [h4,h4'] at hne
 have TT:T≠T':=zmF KX h6 h6' hne
 obtain ⟨bm,ob,b1,b2,b3,b4,b5,b6⟩:=G.T.bmain
 have ha:=hobj
 have lk1:∀b v,([(T,lp,q),(T',lp',q')]:List (Addr × Pos × Str)).lookup b=some v→(b=T∧v=(lp,q))∨(b=T'∧v=(lp',q')):=fun b v z=>by
  rw [List.lookup_cons] at z
  cases y:b==T with
  | true=>
    rw [y] at z
    exact .inl ⟨beq_iff_eq.mp y,(Option.some.inj z).symm⟩
  | false=>
    rw [y,List.lookup_cons] at z
    cases y2:b==T' with
    | true=>
      rw [y2] at z
      exact .inr ⟨beq_iff_eq.mp y2,(Option.some.inj z).symm⟩
    | false=>
      rw [y2] at z
      cases z
 have lkN:∀b,b≠T→b≠T'→([(T,lp,q),(T',lp',q')]:List (Addr × Pos × Str)).lookup b=none:=fun b n1 n2=>by
  cases z:([(T,lp,q),(T',lp',q')]:List (Addr × Pos × Str)).lookup b with
  | none=>rfl
  | some v=>
    rcases lk1 b v z with y | y
    ·exact absurd y.1 n1
    ·exact absurd y.1 n2
 have bTs:∀ {T c:Addr},s₁.heap.TableAt c T #[]→bm≠T:=fun {T c} h6 z=>by
  have hT:=h6.2
  rw [z,hT] at b3
  cases b3
  cases b4
 have ba:bm≠a:=fun z=>by
  rw [z,ha] at b3
  cases b3
  injection b4 with y
  exact absurd y (by decide)
 have bG:bm≠mainGlobals:=fun z=>by
  obtain ⟨og',es,ep,e,dd,_⟩:=G.T.g
  rw [z,e] at b3
  cases b3
  rw [dd] at b6
  cases b6
 have cTs:∀ {c T R d:Addr},s₁.heap.TableAt c T #[]→s₁.heap.TableAt d R #[]→c≠R:=fun {c T R d} h6 h6' z=>by
  obtain ⟨⟨oc,us,c1,c2,c3,c4⟩,_⟩:=id h6
  have hT:=h6'.2
  rw [z,hT] at c1
  cases c1
  cases c2
 have cas:∀ {c T:Addr},s₁.heap.TableAt c T #[]→c≠a:=fun {c T} h6 z=>by
  obtain ⟨⟨oc,us,c1,c2,c3,c4⟩,_⟩:=id h6
  rw [z,ha] at c1
  cases c1
  injection c2 with y
  exact absurd y (by decide)
 have site:∀ {c R:Addr} {cv:Value},cv=.ref c→s₁.heap.IsCode c R #[]→s₁.heap.TableAt c R #[]→∀h:Heap,(∀b o,s₁.heap.get? b=some o→([(T,lp,q),(T',lp',q')]:List (Addr × Pos × Str)).lookup b=none→b≠a→h.get? b=some o)→Site (K w.params) mg h cv R:=fun {c R cv} h4 h5 h7 h kp=>
  ⟨⟨c,h4,by
    obtain ⟨o2,vs2,file,tf,flags,tg,inF,text,tt,e,r⟩:=id (CodeHd.of h5 h7)
    exact ⟨o2,vs2,file,tf,flags,tg,inF,text,tt,kp _ _ e (lkN c (cTs h7 h6) (cTs h7 h6')) (cas h7),r⟩⟩,bm,ob,b1,b2,bG,bTs h7,kp _ _ b3 (lkN bm (bTs h6) (bTs h6')) ba,b4,b5,b6⟩
 refine ziW (ts:=[(T,lp,q),(T',lp',q')]) (sp:=sp (K w.params) T T') KX (hK _) G.T.g G.T.b G.T.builtins G.T.nolimit hg hobj hints (Nat.le_trans hlen hn2) hr (fun b v z=>?_) (fun b v z=>?_) (fun base i1 i2 kp=>hF T T' base i1 i2 (site h4 h5 h6 base kp) (site h4' h5' h6' base kp)) hb fun H hO hS=>hsp (K w.params) T T' H a ns hlen ?_ ?_ hS
 ·rcases lk1 b v z with ⟨rfl,_⟩ | ⟨rfl,_⟩
  ·exact h6.2
  ·exact h6'.2
 ·rcases lk1 b v z with ⟨rfl,_⟩ | ⟨rfl,_⟩
  ·exact h6.isCodeTable
  ·exact h6'.isCodeTable
 ·exact hO T (lp,q) (by simp)
 ·refine hO T' (lp',q') ?_
  have:(T'==T)=false:=by simpa using TT.symm
  rw [List.lookup_cons,this]
  simp
end L2
namespace PySem
open Sem (wp)
namespace F
theorem entry_dict_loop:entryFor table "dict.update.loop" = some Builtin.«dict.update.loop» := entryFor_of_tree (by kernel_rfl)
theorem plain_dict_loop:plainId "dict.update.loop" = true:=by decide +kernel
theorem miss_list_keys:typeLookup (.type "list") "keys" = pure none:=by rw [typeLookup_type,builtinLookup_eq_fast];kernel_rfl
end F
theorem zfP {prog:Program} {w:World} {A:Around} {E:Value→Shared→Prop} {s:Shared} {a:Addr} {o:Obj} {xs:Array Value} {k:Nat} {Q:Option Value→Shared→Prop}
  (hx:s.heap.get? a=some o) (hc:o.cls=.type "list") (hdat:o.data=.seq xs k) (hd:o.dict=none) (hA:A.handled=none)
  (h:∀h' tk,(∀b o,s.heap.get? b=some o→h'.get? b=some o)→Q none { s with heap:=h',toks:=tk }):
  wpAny (model prog w) A (getAttr? (.ref a) "keys") Q E s:=by
 obtain ⟨c,dct,dat,sl⟩:=o
 cases (show c=_ from hc);cases (show dat=_ from hdat);cases (show dct=_ from hd)
 rcases s with ⟨h0,gs,dr,n0,oz⟩
 have isL:∀tk',(⟨h0,gs,dr,tk',oz⟩:Shared).TypeIs (.ref a) "list" := fun _=>⟨_,hx,rfl⟩
 have v1:=sub_AttributeError;have v5:=am_list_getattr_none
 have v3:=F.slot_list_getattribute.lookup;have v4:=F.slot_list_getattribute.bind (.ref a)
 unfold getAttr? getAttrBy?;unfold getAttrBy
 repeat (any_goals (first | assumption | exact isL _ | ((with_reducible show wpAny _ _ (call (Value.builtin "list.__getattribute__") _ _) _ _ _);refine call_meets F.slot_list_getattribute (isL _) am_entry_list_getattribute (F.args_list_getattribute_2 _ _) (meets_getattribute_miss_list a xs k sl "keys" _ F.miss_list_keys (by decide +kernel) (by decide +kernel)) ⟨hx,hA,fun h' tk' e hx'=>?_⟩) | wp_step))
 rcases hx'.there with ⟨_,_,he⟩
 have hE:∀tk'',(⟨h',gs,dr,tk'',oz⟩:Shared).TypeIs (.ref e) "AttributeError" := fun _=>⟨_,he,rfl⟩
 (show wpAny _ _ (getattributeRaised _ _ _ _ _ _ _) _ _ _);unfold getattributeRaised
 repeat (any_goals (first | assumption | exact hE _ | wp_step))
 exact h h' tk' hx'.keeps
section
variable {prog:Program} {w:World} {K:Type} [DecidableEq K] {knd:KeyKind prog w K} {A:Around} {R:Result→Shared→Prop}
def zdh (kvs:List (K × Value)):List (Addr × K × Value × Value)→List (K × Value)
 | []=>kvs
 | p::ps=>zdh (stored kvs p.2.1 p.2.2.2) ps
theorem zhI (kvs:List (K × Value)) (k:K) (v:Value):(stored kvs k v).length≤kvs.length+1:=by
 unfold stored
 split<;>simp
theorem zdi (d l it:Addr) (hh:A.handled=none) (ps:List (Addr × K × Value × Value)) (n1:it≠d) (n2:it≠l) (n3:d≠l) (n4:∀p,p∈ps→p.1≠it∧p.1≠d) (hk:∀p,p∈ps→knd.is p.2.1 p.2.2.1=true):
  ∀(m i:Nat) (s:Shared) (kvs:List (K × Value)),ps.length-i=m→i≤ps.length→s.heap.IsListIter it l i→s.heap.IsList l (ps.map fun p=>Value.ref p.1).toArray→(∀p,p∈ps→s.heap.IsTuple p.1 #[p.2.2.1,p.2.2.2])→s.heap.DictOf knd d kvs→kvs.length+(ps.length-i)≤sizeLine→
   (∀h' tk,(∀b o,b≠it→b≠d→s.heap.get? b=some o→h'.get? b=some o)→h'.DictOf knd d (zdh kvs (ps.drop i))→R (.ok (.ret .none)) { s with heap:=h',toks:=tk })→
   codeAny (model prog w) A (.builtin "dict.update.loop" ⟨[.ref d,.ref it,rawInt i,.none],[]⟩) R s:=by
 intro m
 induction m with
 | zero=>
   intro i s kvs hm hi hit hl hp hd hz hR
   have e:i=ps.length:=by omega
   subst e
   refine codeAny_builtin F.entry_dict_loop ?_
   rw [Around.under_plainId F.plain_dict_loop _]
   show wpAny _ A.in1 (pyNext (.ref it) >>= _) _ _ s
   refine wpAny_bind (wpAny_pyNext_list_end hh hit hl (by simp) fun h' eb=>?_)
   show wpAny _ A.in1 (Builtin.Dict.addKeywords d [] >>= fun _=>ret Value.none) _ _ _
   refine wpAny_bind (wpAny_pure ?_)
   refine wpAny_pure (hR h' s.toks (fun b o h1 h2 e=>eb b o h1 e) ?_)
   rw [List.drop_length]
   obtain ⟨o,es,ep,ho,r⟩:=hd
   exact ⟨o,es,ep,eb d o n1.symm ho,r⟩
 | succ m ih=>
   intro i s kvs hm hi hit hl hp hd hz hR
   have il:i<ps.length:=by omega
   have ei:ps[i]?=some ps[i]:=List.getElem?_eq_getElem il
   have hpm:ps[i]∈ps:=List.getElem_mem il
   have ed:ps.drop i=ps[i]::ps.drop (i+1):=List.drop_eq_getElem_cons il
   generalize ps[i]=p at ei hpm ed
   refine codeAny_builtin F.entry_dict_loop ?_
   rw [Around.under_plainId F.plain_dict_loop _]
   show wpAny _ A.in1 (pyNext (.ref it) >>= _) _ _ s
   refine wpAny_bind (wpAny_pyNext_list_item hit hl (x:=.ref p.1) (by simp [ei]) fun h' hit' sb=>?_)
   have kp:∀b o,b≠it→s.heap.get? b=some o→h'.get? b=some o:=fun b o hb e=>(sb.2 b hb).trans e
   have htup:h'.IsTuple p.1 #[p.2.2.1,p.2.2.2]:=let ⟨o,e,r⟩:=hp p hpm;⟨o,kp _ o (n4 p hpm).1 e,r⟩
   have hd':h'.DictOf knd d kvs:=let ⟨o,es,ep,ho,r⟩:=hd;⟨o,es,ep,kp d o n1.symm ho,r⟩
   obtain ⟨ot,ht1,ht2,nt,ht3⟩:=id htup
   show wpAny _ A.in1 (holding [Value.ref p.1] _ >>= _) _ _ _
   refine wpAny_bind (wpAny_holding ?_)
   refine wpAny_bind (wpAny_tryCatch ?_)
   unfold Builtin.Dict.pairItems
   refine wpAny_bind (wpAny_typeOf (T := "tuple") ⟨ot,ht1,ht2⟩ ?_)
   rw [if_pos (by decide)]
   obtain ⟨oc,od,dt,osl⟩:=ot
   cases (show dt=.seq #[p.2.2.1,p.2.2.2] nt from ht3)
   refine wpAny_bind (m:=seqItems? (.ref p.1)) ?_
   unfold seqItems?
   refine wpAny_bind (wpAny_load ht1 (wpAny_pure (wpAny_pure ?_)))
   show wpAny _ A.in1 (holding [p.2.2.1,p.2.2.2] (dictSet d p.2.2.1 p.2.2.2)) _ _ _
   refine wpAny_holding (wpAny_dictSet_pairs (hk p hpm) hd' (fun h2 hd2 sb2=>?_) (by omega))
   have kp2:∀b o,b≠it→b≠d→s.heap.get? b=some o→h2.get? b=some o:=fun b o h1 h3 e=>(sb2.2 b h3).trans (kp b o h1 e)
   refine wpAny_pure ⟨plainId_quiet F.plain_dict_loop _,?_⟩
   refine ih (i+1) _ (stored kvs p.2.1 p.2.2.2) (by omega) il ?_ ?_ (fun q hq=>?_) hd2 (by have:=zhI kvs p.2.1 p.2.2.2;omega) fun h3 tk h4 h5=>?_
   ·obtain ⟨o,e,r⟩:=hit'
    exact ⟨o,(sb2.2 it n1).trans e,r⟩
   ·obtain ⟨o,e,r⟩:=hl
    exact ⟨o,kp2 l o n2.symm n3.symm e,r⟩
   ·obtain ⟨o,e,r⟩:=hp q hq
    exact ⟨o,kp2 q.1 o (n4 q hq).1 (n4 q hq).2 e,r⟩
   ·refine hR h3 tk (fun b o h1 h2' e=>h4 b o h1 h2' (kp2 b o h1 h2' e)) ?_
    rw [ed]
    exact h5
theorem zec {E:Value→Shared→Prop} {s:Shared} {l:Addr} {ol:Obj} {nl:Nat} (hh:A.handled=none) (ps:List (Addr × K × Value × Value)) {Q:Value→Shared→Prop} (g1:s.heap.get? l=some ol) (g2:ol.cls=.type "list") (g3:ol.data=.seq (ps.map fun p=>Value.ref p.1).toArray nl) (g4:ol.dict=none)
  (hp:∀p,p∈ps→s.heap.IsTuple p.1 #[p.2.2.1,p.2.2.2]) (hk:∀p,p∈ps→knd.is p.2.1 p.2.2.1=true) (hz:ps.length≤sizeLine)
  (h:∀h' tk,(∀b o,s.heap.get? b=some o→h'.get? b=some o)→h'.DictOf knd s.heap.objs.size (zdh [] ps)→Q (.ref s.heap.objs.size) { s with heap:=h',toks:=tk }):
  wpAny (model prog w) A (call (.type "dict") [.ref l]) Q E s:=by
 refine callType_codes (Q₁:=fun x t=>x=.ref s.heap.objs.size∧t = { s with heap:=s.heap.push { cls:=.type "dict",data:=.dict #[] } }) F.kt_called_dict (F.kt_typeCall_dict_1 _) F.entry_dict_init (kt_code_dict_new _ ⟨rfl,rfl⟩) ?_
 rintro obj s₁ ⟨rfl,rfl⟩
 have neu:(s.heap.push { cls:=.type "dict",data:=.dict #[] }).DictOf knd s.heap.objs.size []:=Heap.DictOf.new _
 have old1:∀b o,s.heap.get? b=some o→(s.heap.push { cls:=.type "dict",data:=.dict #[] }).get? b=some o:=fun b o e=>Heap.get?_push_of_some _ e
 refine ⟨neu.typeIs,F.args_dict_init_2 _ _,?_⟩
 unfold Builtin.«dict.__init__»;refine wpAny_bind ?_
 unfold Builtin.Dict.selfAndRest;refine wpAny_bind (wpAny_notOrdered_dict neu.typeIs ?_)
 show wpAny _ _ (pure (s.heap.objs.size,[Value.ref l])) _ _ _
 refine wpAny_pure ?_
 show wpAny _ _ (Builtin.Dict.updateFrom "dict.__init__" s.heap.objs.size (.ref l) [] .none) _ _ _
 unfold Builtin.Dict.updateFrom;refine wpAny_bind (wpAny_typeOf (T := "list") ⟨ol,old1 _ _ g1,g2⟩ ?_)
 rw [if_pos (by decide)]
 refine wpAny_bind (zfP (old1 _ _ g1) g2 g3 g4 hh fun h1 tk1 k1=>?_)
 rw [if_pos (by rfl)]
 refine wpAny_bind (wpAny_rule ?_)
 have old2:∀b o,s.heap.get? b=some o→h1.get? b=some o:=fun b o e=>k1 b o (old1 b o e)
 have hl2:h1.IsList l (ps.map fun p=>Value.ref p.1).toArray:=⟨ol,old2 _ _ g1,g2,nl,g3⟩
 refine wpAny_bind (wpAny_pyIter_list hl2 ?_)
 have lt:s.heap.objs.size<h1.objs.size:=by
  obtain ⟨o,es,ep,ho,_⟩:=neu
  exact Heap.lt_size (k1 _ o ho)
 have old3:∀b o,h1.get? b=some o→(h1.push { cls:=.type "list_iterator",data:=.fields #[.ref l,.int 0 0] }).get? b=some o:=fun b o e=>Heap.get?_push_of_some _ e
 have ltl:l<s.heap.objs.size:=Heap.lt_size g1
 have ltp:∀p,p∈ps→p.1<s.heap.objs.size:=fun p hpp=>let ⟨o,e,_⟩:=hp p hpp;Heap.lt_size e
 refine wpAny_pure ⟨plainId_quiet F.plain_dict_loop _,zdi (A:=A.in1) (knd:=knd) s.heap.objs.size l h1.objs.size hh ps (Nat.ne_of_gt lt) (Nat.ne_of_gt (Nat.lt_trans ltl lt)) (Nat.ne_of_gt ltl) (fun p hpp=>⟨Nat.ne_of_lt (Nat.lt_trans (ltp p hpp) lt),Nat.ne_of_lt (ltp p hpp)⟩) hk ps.length 0 _ [] rfl (Nat.zero_le _) ⟨_,Heap.get?_push_size _ rfl,rfl,rfl⟩ ⟨ol,old3 _ _ (old2 _ _ g1),g2,nl,g3⟩ (fun p hpp=>?_) ?_ (by simpa using hz) fun h' tk kp hd=>?_⟩
 ·obtain ⟨o,e,r⟩:=hp p hpp
  exact ⟨o,old3 _ _ (old2 _ _ e),r⟩
 ·obtain ⟨o,es,ep,ho,r⟩:=neu
  exact ⟨o,es,ep,old3 _ _ (k1 _ _ ho),r⟩
 ·refine ⟨rfl,h h' tk (fun b o e=>?_) hd⟩
  have lb:=Heap.lt_size e
  exact kp b o (Nat.ne_of_lt (Nat.lt_trans lb lt)) (Nat.ne_of_lt lb) (old3 _ _ (old2 _ _ e))
end
end PySem
namespace L2
open PySem PySem.Spec PyProof.Rows
def zbR (kvs:List (Key × V)):List (Key × V)→List (Key × V)
 | []=>kvs
 | p::ps=>zbR (putK kvs p.1 p.2) ps
theorem KV.all {kvs:List (Key × V)} {vs:List (Key × Value)} {qs:List (Addr × Key × Value × Value)} {ps:List (Key × V)} (r:KV kvs vs) (h:Paired (fun (p:Key × V) (q:Addr × Key × Value × Value)=>p.1=q.2.1∧RelV p.2 q.2.2.2) ps qs):KV (zbR kvs ps) (zdh vs qs):=by
 induction h generalizing kvs vs with
 | nil=>exact r
 | cons x _ ih=>
   obtain ⟨e,rv⟩:=x
   show KV (zbR (putK _ _ _) _) (zdh (stored _ _ _) _)
   rw [←e]
   exact ih (r.put _ rv)
theorem zcH {X:Cx} (hh:X.A.handled=none):zdU X (.type "dict") (fun xs H Q=>∃(l:Addr) (bs:List (Addr × Key × V)),xs=[V.ref l]∧H l=some (.lst (bs.map fun b=>V.ref b.1))∧(∀b,b∈bs→H b.1=some (.tup [kV b.2.1,b.2.2]))∧
  ∀d H2,Same H H2→H d=none→H2 d=some (.dK (zbR [] (bs.map (·.2))))→Q (.ref d) H2):=by
 intro pins s σ H xs us Q I r h
 obtain ⟨l,bs,rfl,hl,hb,q⟩:=h
 obtain ⟨u,rfl,ru⟩:=zer r
 cases (show u=Value.ref l from ru)
 obtain ⟨hz,its,n,rv,g⟩:=(show _ from I.hok l _ hl)
 have hn:H s.heap.objs.size=none:=I.hok.fresh (Nat.le_refl _)
 have R:∀i,i<bs.length→∃q:Addr × Key × Value × Value,∃b,bs[i]?=some b∧q.1=b.1∧s.heap.IsTuple q.1 #[q.2.2.1,q.2.2.2]∧(zaI X.prog X.w).is q.2.1 q.2.2.1=true∧b.2.1=q.2.1∧RelV b.2.2 q.2.2.2:=fun i hi=>by
  have eb:bs[i]?=some bs[i]:=List.getElem?_eq_getElem hi
  have hm:=List.getElem_mem hi
  generalize bs[i]=b at eb hm
  obtain ⟨_,ws,rw',p⟩:=(show _ from I.hok b.1 _ (hb b hm))
  obtain ⟨u1,u2,rfl,r1,r2⟩:=zjv rw'
  have hkey:(zaI X.prog X.w).is b.2.1 u1=true:=by
   rw [zez]
   cases hk:b.2.1 with
   | inl i=>
     rw [hk] at r1
     obtain ⟨t,rfl⟩:=r1
     exact beq_self_eq_true _
   | inr x=>
     rw [hk] at r1
     obtain ⟨t,rfl⟩:=r1
     exact beq_self_eq_true _
  exact ⟨(b.1,b.2.1,u1,u2),b,eb,rfl,p,hkey,rfl,r2⟩
 obtain ⟨qs,lq,rq⟩:=zci _ bs.length R
 have eits:its=qs.map fun p=>Value.ref p.1:=by
  have l1:its.length=bs.length:=by
   have:=rv.length
   rw [List.length_map] at this
   exact this.symm
  refine List.ext_getElem? fun i=>?_
  rw [List.getElem?_map]
  cases e:qs[i]? with
  | none=>
    have:=List.getElem?_eq_none_iff.mp e
    rw [List.getElem?_eq_none (by omega)]
    rfl
  | some q'=>
    obtain ⟨b,e1,e2,_⟩:=rq i q' e
    have il:i<its.length:=by
     have:=(List.getElem?_eq_some_iff.mp e).1
     omega
    have ei:=List.getElem?_eq_getElem il
    have:=zeG rv (show (bs.map fun b=>V.ref b.1)[i]?=some (V.ref b.1) by rw [List.getElem?_map,e1];rfl) ei
    rw [ei]
    show some its[i]=some (Value.ref q'.1)
    rw [show its[i]=Value.ref b.1 from this,e2]
 have mem:∀q',q'∈qs→s.heap.IsTuple q'.1 #[q'.2.2.1,q'.2.2.2]∧(zaI X.prog X.w).is q'.2.1 q'.2.2.1=true:=fun q' hq=>by
  obtain ⟨i,hi,ei⟩:=List.getElem_of_mem hq
  have e:=List.getElem?_eq_getElem hi
  rw [ei] at e
  obtain ⟨_,_,_,a3,a4,_⟩:=rq i q' e
  exact ⟨a3,a4⟩
 have zq:qs.length≤sizeLine:=by
  rw [List.length_map] at hz
  omega
 refine zec (knd:=zaI X.prog X.w) hh qs g rfl (by rw [←eits]) rfl (fun q' hq=>(mem q' hq).1) (fun q' hq=>(mem q' hq).2) zq fun h' tk kp hd=>?_
 have rel:KV (zbR [] (bs.map (·.2))) (zdh [] qs):=KV.all .nil (zfO (by rw [List.length_map,lq]) fun j p q' hp hq=>by
  obtain ⟨b,e1,_,_,_,a5,a6⟩:=rq j q' hq
  rw [List.getElem?_map,e1] at hp
  cases hp
  exact ⟨a5,a6⟩)
 have zl:(zbR [] (bs.map (·.2))).length≤sizeLine:=by
  have:∀(ps:List (Key × V)) (kvs:List (Key × V)),(zbR kvs ps).length≤kvs.length+ps.length:=by
   intro ps
   induction ps with
   | nil=>intro kvs;exact Nat.le_refl _
   | cons p ps ih=>
     intro kvs
     have h1:=ih (putK kvs p.1 p.2)
     have h2:(putK kvs p.1 p.2).length≤kvs.length+1:=by
      unfold putK
      split
      ·rw [List.length_map]
       omega
      ·rw [List.length_append]
       exact Nat.le_refl _
     show (zbR (putK kvs p.1 p.2) ps).length≤_
     rw [List.length_cons]
     omega
  have:=this (bs.map (·.2)) []
  rw [List.length_map,List.length_nil] at this
  omega
 exact ⟨.ref _,_,I.laid (a:=s.heap.objs.size) (o:=.dK (zbR [] (bs.map (·.2)))) (h':=h') (t':=tk) kp (Nat.le_refl _) (zkt zl (beq_eq_false_iff_ne.mpr (Ne.symm (Nat.ne_of_lt I.big))) rel hd),rfl,q _ _ (zby hn _) hn zar⟩
theorem zhJ {a:Addr} {ob:Obj} {kvs:List (Key × V)} {js:List Nat} {tc:TT} {te:TE} {σ:St} {H1:Hp} {Q:VK} (p:Nat→Bool) (f:Nat→List V) (hl:H1 a=some (.frz ob (.dK kvs)))
  (ht:∀i kv Hh (Q':Bool→Hp→Prop),kvs[i]?=some kv→Same H1 Hh→(∀Hh',Same Hh Hh'→Q' (p i) Hh')→tc (some (kV kv.1)::caps σ js) Hh Q')
  (he:∀i kv Hh (Q':VK),kvs[i]?=some kv→p i=true→Same H1 Hh→(∀b Hh',Same Hh Hh'→Hh' b=some (.tup (f i))→Q' (.ref b) Hh')→te (some (kV kv.1)::caps σ js) Hh Q')
  (hz:kvs.length<sizeLine) (q:∀D H2 (bs:List (Addr × List V)),Same H1 H2→H1 D=none→H2 D=some (.lst (bs.map fun b=>V.ref b.1))→bs.map (·.2)=((List.range kvs.length).filter p).map f→(∀b,b∈bs→H2 b.1=some (.tup b.2))→Q (.ref D) H2):
  zeA (Itd a ob kvs) js tc te σ H1 Q:=by
 intro D H2 s2 hD h2
 refine ⟨fun i m acc H3=>m=kvs.length-i∧i≤kvs.length∧∃bs:List (Addr × List V),acc=(bs.map fun b=>V.ref b.1)∧bs.map (·.2)=((List.range i).filter p).map f∧(∀b,b∈bs→H3 b.1=some (.tup b.2))∧Same H1 H3∧H3 D=some (.lst acc),⟨_,rfl,Nat.zero_le _,[],rfl,by simp,fun b hb=>by simp at hb,s2,h2⟩,?_⟩
 rintro i m acc H3 ⟨rfl,hi,bs,ea,eb,hb,s3,h3⟩
 have hl3:=s3 _ _ hl
 have hll:acc.length≤kvs.length:=by
  have e:=congrArg List.length eb
  rw [List.length_map,List.length_map] at e
  rw [ea,List.length_map,e]
  refine Nat.le_trans (List.length_filter_le _ _) ?_
  rw [List.length_range]
  exact hi
 refine ⟨h3,by omega,?_⟩
 by_cases hlt:i<kvs.length
 ·refine .inr ⟨⟨hl3,hlt⟩,fun y H4 z=>?_⟩
  obtain ⟨e,kv,ey2,rfl⟩:=z
  subst e
  refine ht i kv _ _ ey2 s3 fun H5 s5=>?_
  have h5:=s5 _ _ h3
  have s35:=s3.trans s5
  have tk:(List.range (i+1)).filter p=(List.range i).filter p++(if p i=true then [i] else []):=by
   rw [List.range_succ,List.filter_append]
   congr 1
   cases h:p i<;>simp [h]
  cases hp:p i with
  | true=>
    refine iteT (he i kv _ _ ey2 hp s35 fun b6 H6 s6 g6=>⟨s6 _ _ h5,fun H7 k7 h7=>⟨kvs.length-(i+1),by omega,rfl,hlt,bs++[(b6,f i)],?_,?_,fun b hb'=>?_,fun b o e=>?_,h7⟩⟩)
    ·rw [ea,List.map_append]
     rfl
    ·rw [List.map_append,eb,tk,hp,if_pos rfl,List.map_append]
     rfl
    ·have nD:∀c t,H6 c=some (.tup t)→c≠D:=fun c t g z=>by
      rw [z,s6 _ _ h5] at g
      cases g
     rcases List.mem_append.mp hb' with h | h
     ·have g:=s6 _ _ (s5 _ _ (hb b h))
      exact k7 _ _ (nD _ _ g) g
     ·have:b=(b6,f i):=by simpa using h
      subst this
      exact k7 _ _ (nD _ _ g6) g6
    ·by_cases hbD:b=D
     ·subst hbD
      rw [hD] at e
      cases e
     ·exact k7 b o hbD (s6 b o (s35 b o e))
  | false=>
    refine iteF ⟨kvs.length-(i+1),by omega,rfl,hlt,bs,ea,?_,fun b hb'=>s5 _ _ (hb b hb'),s35,h5⟩
    rw [tk,hp,if_neg Bool.false_ne_true,List.append_nil]
    exact eb
 ·have e:i=kvs.length:=by omega
  subst e
  refine .inl ⟨⟨hl3,Nat.le_refl _⟩,?_⟩
  rw [ea] at h3
  exact q D _ bs s3 hD h3 eb hb
theorem zdj:∀(ps kvs:List (Key × V)),((kvs++ps).map (·.1)).Nodup→zbR kvs ps=kvs++ps
 | [],kvs,_=>by simp [zbR]
 | p::ps,kvs,nd=>by
   have no:valV kvs p.1=none:=by
    cases e:valV kvs p.1 with
    | none=>rfl
    | some v=>
      rw [List.map_append,List.nodup_append] at nd
      have hm:p.1∈kvs.map (·.1):=by
       clear nd
       induction kvs with
       | nil=>rw [zjx] at e;cases e
       | cons q kvs ih=>
         by_cases z:q.1=p.1
         ·rw [List.map_cons,z]
          exact List.mem_cons_self
         ·rw [za9 z] at e
          exact List.mem_cons_of_mem _ (ih e)
      exact (nd.2.2 _ hm _ List.mem_cons_self rfl).elim
   show zbR (putK kvs p.1 p.2) ps=_
   rw [zjz _ no,zdj ps (kvs++[(p.1,p.2)]) (by rw [List.append_assoc];exact nd),List.append_assoc]
   rfl
theorem zkL {L:List (Int × Int)} (nd:(L.map (·.1)).Nodup):zbR [] (dI L)=dI L:=by
 rw [zdj]
 ·rfl
 ·show ((dI L).map (·.1)).Nodup
  unfold dI
  rw [List.map_map]
  have:(L.map ((fun x:Key × V=>x.1) ∘ fun p:Int × Int=>((Sum.inl p.1:Key),V.int p.2)))=(L.map (·.1)).map (fun i=>(Sum.inl i:Key)):=by
   rw [List.map_map]
   rfl
  rw [this,List.nodup_iff_pairwise_ne,List.pairwise_map]
  exact (List.nodup_iff_pairwise_ne.mp nd).imp fun h z=>h (Sum.inl.inj z)
def zb1 (ws:List Int) (p:Int × Int):Int × Int:=(p.1,if p.1∈ws then (if p.2-1 > 0 then p.2-1 else 0) else p.2)
def zaH (t:Int):List (Int × List Int)→List (Int × Int)→List (Int × Int)
 | [],L=>L
 | r::rs,L=>zaH t rs (if r.1≤t then L.map (zb1 r.2) else L)
theorem zbk (t:Int):∀(rs:List (Int × List Int)) (L:List (Int × Int)),(zaH t rs L).map (·.1)=L.map (·.1)
 | [],L=>rfl
 | r::rs,L=>by
   show (zaH t rs _).map (·.1)=_
   rw [zbk t rs]
   split
   ·rw [List.map_map]
    rfl
   ·rfl
theorem zeH (t:Int) (r:Int × List Int):∀(rs:List (Int × List Int)) (L:List (Int × Int)),zaH t (rs++[r]) L=if r.1≤t then (zaH t rs L).map (zb1 r.2) else zaH t rs L
 | [],L=>rfl
 | q::rs,L=>zeH t r rs _
theorem zhK {K:PySem.W.Frag} {a:Addr} {xs:List V} {js:List Nat} {tc:TT} {te:TE} {σ:St} {H1:Hp} {Q:VK} (R:Nat→List V→Prop) (hl:SqL K H1 a xs)
  (ht:∀(i:Nat) x Hh (Q':Bool→Hp→Prop),xs[i]?=some x→Same H1 Hh→(∀Hh',Same Hh Hh'→Q' true Hh')→tc (some x::caps σ js) Hh Q')
  (he:∀(i:Nat) x Hh (Q':VK),xs[i]?=some x→Same H1 Hh→(∀b t Hh',Same Hh Hh'→R i t→Hh' b=some (.tup t)→Q' (.ref b) Hh')→te (some x::caps σ js) Hh Q')
  (hz:xs.length<sizeLine) (q:∀D H2 (bs:List (Addr × List V)),Same H1 H2→H1 D=none→H2 D=some (.lst (bs.map fun b=>V.ref b.1))→bs.length=xs.length→(∀(i:Nat) b,bs[i]?=some b→R i b.2)→(∀b,b∈bs→H2 b.1=some (.tup b.2))→Q (.ref D) H2):
  zeA (Itl K a) js tc te σ H1 Q:=by
 intro D H2 s2 hD h2
 refine ⟨fun i m acc H3=>m=xs.length-i∧i≤xs.length∧∃bs:List (Addr × List V),acc=(bs.map fun b=>V.ref b.1)∧bs.length=i∧(∀(j:Nat) b,bs[j]?=some b→R j b.2)∧(∀b,b∈bs→H3 b.1=some (.tup b.2))∧Same H1 H3∧H3 D=some (.lst acc),⟨_,rfl,Nat.zero_le _,[],rfl,rfl,fun j b hb=>by simp at hb,fun b hb=>by simp at hb,s2,h2⟩,?_⟩
 rintro i m acc H3 ⟨rfl,hi,bs,ea,eb,rb,hb,s3,h3⟩
 have hl3:SqL K H3 a xs:=s3.seq hl
 have hll:acc.length≤xs.length:=by
  rw [ea,List.length_map]
  omega
 refine ⟨h3,by omega,?_⟩
 by_cases hlt:i<xs.length
 ·have hx:xs[i]?=some xs[i]:=List.getElem?_eq_getElem hlt
  refine .inr ⟨⟨xs,_,hl3,hx⟩,fun y H4 z=>?_⟩
  obtain ⟨e,ey⟩:=z
  have ey2:=ey xs hl3
  subst e
  refine ht i y _ _ ey2 s3 fun H5 s5=>?_
  have h5:=s5 _ _ h3
  have s35:=s3.trans s5
  refine iteT (he i y _ _ ey2 s35 fun b6 t6 H6 s6 r6 g6=>⟨s6 _ _ h5,fun H7 k7 h7=>⟨xs.length-(i+1),by omega,rfl,hlt,bs++[(b6,t6)],?_,by rw [List.length_append,eb];rfl,fun j b hj=>?_,fun b hb'=>?_,fun b o e=>?_,h7⟩⟩)
  ·rw [ea,List.map_append]
   rfl
  ·by_cases z:j<bs.length
   ·rw [List.getElem?_append_left z] at hj
    exact rb j b hj
   ·rw [List.getElem?_append_right (by omega)] at hj
    cases y:j-bs.length with
    | zero=>
      rw [y] at hj
      cases hj
      rw [show j=i by omega]
      exact r6
    | succ n=>rw [y] at hj;cases hj
  ·have nD:∀c t,H6 c=some (.tup t)→c≠D:=fun c t g z=>by
    rw [z,s6 _ _ h5] at g
    cases g
   rcases List.mem_append.mp hb' with h | h
   ·have g:=s6 _ _ (s5 _ _ (hb b h))
    exact k7 _ _ (nD _ _ g) g
   ·have:b=(b6,t6):=by simpa using h
    subst this
    exact k7 _ _ (nD _ _ g6) g6
  ·by_cases hbD:b=D
   ·subst hbD
    rw [hD] at e
    cases e
   ·exact k7 b o hbD (s6 b o (s35 b o e))
 ·have e:i=xs.length:=by omega
  subst e
  refine .inl ⟨⟨xs,hl3,Nat.le_refl _⟩,?_⟩
  rw [ea] at h3
  exact q D _ bs s3 hD h3 eb rb hb
theorem zlA {H:Hp} {cs:List Cel} (nd:(cs.map (·.1)).Nodup) (h:∀p,p∈cs→H p.1=some (ze1 p)):trc (drp H cs) cs=H:=by
 funext b
 by_cases z:b∈cs.map (·.1)
 ·obtain ⟨p,hp,rfl⟩:=List.mem_map.mp z
  rw [zg8 nd hp,h p hp]
 ·rw [zbT z,zdx z]
theorem zj0 {L:List (Int × Int)} {k v:Int} (h:k∉L.map (·.1)):putI L k v=L++[(k,v)]:=by
 unfold putI
 rw [if_neg]
 intro z
 obtain ⟨p,hp,e⟩:=List.any_eq_true.mp z
 exact h (List.mem_map.mpr ⟨p,hp,of_decide_eq_true e⟩)
end L2
namespace PySem
open Sem (wp)
section
variable {prog:Program} {w:World} {A:Around} {E:Value→Shared→Prop} {s:Shared}
end
end PySem
namespace PySem
open Sem (wp)
open AutoSeq1 (wpAny_loadPart')
set_option maxHeartbeats 8000000 in
section
variable {prog:Program} {w:World} {A:Around} {E:Value→Shared→Prop} {s:Shared}
end
end PySem
namespace L2
open PySem PySem.Spec PyProof.Rows
section
variable {M:Model} {A:Around} {E:Value→Shared→Prop} {s:Shared} {env:Env}
end
structure Zap (z TI TO i1 i2:Addr):Prop where
 n1:TI≠z
 n2:TO≠z
 n3:i1≠z
 n4:i2≠z
 n5:TI≠TO
 n6:TI≠i1
 n7:TI≠i2
 n8:TO≠i1
 n9:TO≠i2
 n0:i1≠i2
end L2
namespace L2
open PySem PySem.Spec PyProof.Rows
end L2
namespace L2
open PySem PySem.Spec PyProof.Rows
structure RowOk (ds:List Cl) (lf:Int→Int) (h:Nat) (t:Int) (ws:List Int):Prop where
 len:ws.length≤h
 nd:ws.Nodup
 inn:∀w,w∈ws→∃d,d∈ds∧d.n=w∧1≤lf w∧d.came≤t
 srt:∀(i:Nat) d e,ws[i]?=some d.n→ws[i+1]?=some e.n→d∈ds→e∈ds→ahd d e t=true
 rest:∀d,d∈ds→d.n∉ws→0<lf d.n→d.came≤t→ws.length=h∧∀e,e∈ds→ws.getLast?=some e.n→ahd e d t=true
def dn (ws:List Int) (L:List (Int × Int)):List (Int × Int):=L.map fun p=>(p.1,if p.1∈ws then p.2-1 else p.2)
end L2
namespace PySem
open Sem (wp)
section
variable {prog:Program} {w:World} {A:Around} {E:Value→Shared→Prop} {s:Shared}
end
end PySem
namespace PySem
open Sem (wp)
section
variable {prog:Program} {w:World} {A:Around} {E:Value→Shared→Prop} {s:Shared}
end
end PySem
namespace L2
open PySem PySem.Spec PyProof.Rows
section
variable {X:Cx}
end
end L2
namespace L2
open PySem PySem.Spec PyProof.Rows
section
variable {X:Cx}
end
end L2
namespace L2
open PySem PySem.Spec PyProof.Rows
section
variable {X:Cx}
end
end L2
namespace L2
open PySem PySem.Spec PyProof.Rows
section
variable {X:Cx} {tg:Expr}
@[irreducible] def PIi (X:Cx) (tg iter:Expr) (wi:TI):Prop:=PI X tg iter wi
theorem zj1 {l:Expr} {tl:TE} (hl:PE X l tl):PIi X tg l (zl5 X.K tl):=by
 unfold PIi
 exact za6 hl
theorem zlB {iter:Expr} {body:List Stmt} {wi:TI} {g:TG} {tb:TS} {pos:Pos} (hp:PassesOwn (model X.prog X.w) X.A X.env X.xe) (hc:X.calm=true) (hi:PIi X tg iter wi) (hg:PG X tg g) (hb:PSs X body tb)
  (hs:∀x,foldedSetIterable iter X.env x=pure x:=by intro _;rfl):PS X (.For tg iter body [] pos) (tFor wi g tb):=by
 unfold PIi at hi
 exact zcp hp hc hi hg hb hs
end
end L2
namespace L2
open PySem PySem.Spec PyProof.Rows
structure MOk (CX:CXT) (P:Program) (w:World) (K:PySem.W.Frag) (mg:Str→Option Value) (base:Heap) (k:Nat) (C:Addr) (m:Str) (sp:Sp):Prop where
 cl:Cls K C
 ex:∃f fd ps,Meth K C m f∧FnOk P w K mg base CX k f fd ps sp∧zbN K fd ps []
section
variable {X:Cx} {CX:CXT} {k:Nat} {E:XK} {m:Str} {pos apos:Pos} {e o:Expr} {es:List Expr} {ta:TE} {t:TA}
end
structure FunE (K:PySem.W.Frag) (x qual:Str) (st:Stmt) (f:Addr) (fd:FuncData) (u:Value):Prop where
 ex:∃(oc:Value) (od:Option Addr) (T:Addr) (kV doc pm:Value) (an:Option Addr) (cdv ct:Value) (osl:Array (Option Value)) (o:Obj) (n:Nat),
  fd=PySem.W.fnOf x qual (zak st) (zag st) (zac st) (.ref T) kV doc pm an cdv ct∧K.lookup f=some ⟨oc,od,.func fd,osl⟩∧PySem.W.codeIn K cdv qual=true∧K.lookup T=some o∧o.data=.seq #[u] n
 kp:PySem.W.keepIn K (.ref f)=true
def zmG (K:PySem.W.Frag) (names:List Str):Sp:=fun vs H Q _=>∃(x C dx:Addr) (args:List V),vs=.ref x::args∧H x=some (.ins C dx [])∧Cls K C∧(∀f,f∈names→zgR K C f)∧args.length=names.length∧
 ∀H',But x H H'→H' x=some (.ins C dx (names.zip args))→Q .non H'
structure Mak (P:Program) (w:World) (K:PySem.W.Frag) (mg:Str→Option Value) (base:Heap) (x:Str) (C:Addr) (k:Nat) (names:List Str) (dv:V):Prop where
 cl:Cls K C
 no:∀f,f∈names→zgR K C f
 ex:∃f fd ps u,Mk K C f∧FnOk P w K mg base CX0 k f fd ps (zmG K names)∧zbN K fd ps []∧(RelV dv u→zbN K fd ps [u])∧RelV dv u∧mg x=some (.ref C)
section
variable {X:Cx} {k:Nat} {x:Str} {C:Addr} {names:List Str} {dv:V} {p pos:Pos} {e:Expr} {es:List Expr} {t:TA}
end
structure Own (K:PySem.W.Frag) (C:Addr):Prop where
 cl:Cls K C
 ha:PySem.W.findIn K (.ref C) "__class__" = some (some (.builtin "object.__class__"))
 hn:PySem.W.specialIn K (.builtin "object.__class__") "__get__" = some (some (.builtin "getset_descriptor.__get__"))
 htk:PySem.W.takesIn K (.builtin "object.__class__")=some true
 hm:PySem.W.mroIn K C (.type "object")=some true
structure Mfn (K:PySem.W.Frag) (x qual:Str) (st:Stmt) (ps:List Str) (f:Addr) (fd:FuncData):Prop where
 F:Fun K x qual st f fd
 b:zbN K fd ps []
structure MfnE (K:PySem.W.Frag) (x qual:Str) (st:Stmt) (ps:List Str) (f:Addr) (fd:FuncData) (u:Value):Prop where
 F:FunE K x qual st f fd u
 b:zbN K fd ps []
 bd:zbN K fd ps [u]
section
variable {X:Cx} {o value:Expr} {f:Str} {pos pos':Pos} {ta tv:TE}
end
section
variable {X:Cx} {k:Nat} {ps:List Str} {sp:Sp} {x:Str} {p pos:Pos}
end
end L2
namespace L2
open PySem PySem.Spec PyProof.Rows
section
variable {κ:Type} [DecidableEq κ]
variable {prog:Program} {w:World} {knd:KeyKind prog w κ}
end
end L2
namespace L2
open PySem PySem.Spec PyProof.Rows
section
variable {X:Cx} {a:Expr} {ta:TA} {p p2 pos pos2:Pos}
end
section
variable {X:Cx} {CX:CXT} {k:Nat} {f C:Addr} {fd:FuncData} {ps:List Str} {sp spi:Sp} {E:XK} {x m:Str} {p pos apos:Pos} {e o:Expr} {es:List Expr} {ta:TE} {t:TA}
structure MakG (CX:CXT) (P:Program) (w:World) (K:PySem.W.Frag) (mg:Str→Option Value) (base:Heap) (x:Str) (C:Addr) (k:Nat) (sp:Sp):Prop where
 ex:∃f fd ps spi,Mk K C f∧FnOk P w K mg base CX k f fd ps spi∧zbN K fd ps []∧mg x=some (.ref C)∧
  ∀vs H Q E,sp vs H Q E→∀y dx,H y=none→H dx=none→dx≠y→spi (.ref y::vs) (upd (upd H dx (.own y)) y (.ins C dx [])) (fun v H2=>v=.non∧Q (.ref y) H2) E
end
end L2
namespace L2
open PySem PySem.Spec PyProof.Rows
section
variable {X:Cx} {CX:CXT} {k:Nat} {E:XK} {m:Str} {pos apos:Pos} {e o:Expr} {es:List Expr} {ta:TE} {t:TA}
end
end L2
namespace L2
open PySem PySem.Spec PyProof.Rows
end L2
namespace L2
open PySem PySem.Spec PyProof.Rows
end L2
namespace PySem
section
variable {M:Model} {A:Around} {E:Value→Shared→Prop} {s:Shared}
end
end PySem
namespace L2
open PySem PySem.Spec PyProof.Rows
structure FliesA (h:Heap) (H:Hp) (low:Nat) (a C T:Addr) (dx:Option Addr) (vs:Array Value):Prop where
 at_:H a=some (XcO a C dx vs)
 tr:vs[1]?=some (.ref T)
 new:low≤T
 free:H T=none
 ne:T≠a
 dict:∀y,dx=some y→∃fs,H y=some (.xd fs)
 recd:∃oT ts fl,h.get? T=some oT∧oT.data=.fields ts∧ts[3]?=some fl
section
variable {X:Cx} {pins:List (Addr × Obj)} {σ:St} {H:Hp} {s:Shared} {a C T:Addr} {dx:Option Addr} {vs:Array Value}
end
section
variable {P:Program} {w:World} {K:PySem.W.Frag} {mg:Str→Option Value} {base:Heap} {N:List Str} {qual:Str} {scope:Scope} {f:Addr} {cd:Value} {A:Around} {outer:List Env} {s₀:Shared} {H₀:Hp} {E:XK}
end
end L2
namespace L2
open PySem PySem.Spec PyProof.Rows
structure LamD (X:Cx) (H:Hp) (q nm:Str) (ar:Arguments) (body:List Stmt) (scope:Scope) (f:Addr) (cl:List (Str × Addr)):Prop where
 ex:∃doc pm c ct oc us t o,H f=some (.frz o (.own f))∧o.data=.func (PySem.W.fnX nm q ar body scope cl .none .none doc pm none (.ref c) ct)∧H c=some (.frz oc (.own c))∧oc.data=.fields us∧us[1]?=some (.str q t)
 c1:∀x c,cl.lookup x=some c→X.env.cells.lookup x=some c
 c2:∀x,(x,NameKind.free)∈scope.names→∃c,cl.lookup x=some c
 c3:∀x c,cl.lookup x=some c→(x,NameKind.free)∈scope.names
section
variable {X:Cx} {pins:List (Addr × Obj)} {σ:St} {H:Hp} {s:Shared}
end
structure CloD (H:Hp) (q nm:Str) (ar:Arguments) (body:List Stmt) (scope:Scope) (f:Addr) (cl:List (Str × Addr)) (N:List Str) (cs:List Cel):Prop where
 ex:∃doc pm c ct oc us t o,H f=some (.frz o (.own f))∧o.data=.func (PySem.W.fnX nm q ar body scope cl .none .none doc pm none (.ref c) ct)∧H c=some (.frz oc (.own c))∧oc.data=.fields us∧us[1]?=some (.str q t)
 inj:∀y z c,cl.lookup y=some c→cl.lookup z=some c→y=z
 has:∀x,(x,NameKind.free)∈scope.names→∃c,cl.lookup x=some c
 cov:∀x c,cl.lookup x=some c→∃p,p∈cs∧p.1=c
 len:N.length=cs.length+1
 cap:∀(k:Nat) (p:Cel) (y:Str),N[k+1]?=some y→cs[k]?=some p→cl.lookup y=some p.1∧(y,NameKind.free)∈scope.names
 cel:∀p,p∈cs→H p.1=some (ze1 p)∧CellOk p
 nd:(cs.map (·.1)).Nodup
def stf (H:Hp):Hp:=fun b=>match H b with
 | some (.frz o u)=>some (.frz o u)
 | some (.ext φ)=>some (.ext φ)
 | _=>none
theorem ziX {H:Hp} {b:Addr} {o:Obj} {u:HO} (h:H b=some (.frz o u)):stf H b=some (.frz o u):=by
 unfold stf
 rw [h]
theorem zlC {H:Hp} {b:Addr} {φ:Heap→Prop} (h:H b=some (.ext φ)):stf H b=some (.ext φ):=by
 unfold stf
 rw [h]
theorem zj2 {H:Hp}:Same (stf H) H:=fun b o e=>by
 unfold stf at e
 split at e
 ·next z=>cases e;exact z
 ·next z=>cases e;exact z
 ·cases e
end L2
namespace L2
open PySem PySem.Spec PyProof.Rows
structure CalD1 (P:Program) (w:World) (K:PySem.W.Frag) (mg:Str→Option Value) (base:Heap) (x:Str) (k:Nat) (ps:List Str) (sp:Sp):Prop where
 ex:∃f fd,FnOk P w K mg base (CX1 P w) k f fd ps sp∧zbN K fd ps []∧zbN K fd ps [.none]∧mg x=some (.ref f)∧PySem.W.keepIn K (.ref f)=true
end L2
namespace L2
open PySem PySem.Spec PyProof.Rows PySem.W
end L2
namespace L2
open PySem PySem.Spec PyProof.Rows PySem.W
noncomputable abbrev tgal:=@PySem.W.Fast.tw8001965791261037382
noncomputable abbrev telem:=@PySem.W.Fast.tw4424054534610556225
noncomputable abbrev tlt:=@PySem.W.Fast.tw5462128846355204966
noncomputable abbrev tlo:=@PySem.W.Fast.tw17852939151971871240
noncomputable abbrev thi:=@PySem.W.Fast.tw11371033205705349026
noncomputable abbrev tat:=@PySem.W.Fast.tw6096456617080501612
noncomputable abbrev tset:=@PySem.W.Fast.tw5464061087179277862
structure Odr (prog:Program) (w:World) (A:Around) (E:Value→Shared→Prop) (s:Shared) (k0:SortKind) (G:Keyed→Prop) (L:Keyed→Keyed→Bool):Prop where
 ask:∀(x y:Keyed) (st:SortSt) (Q:Option Bool→SortSt→Prop),G x→G y→kindOf st=k0→Q (some (L x y)) st→wpS (model prog w) A E s (lt' x y) Q st
 tr:∀x y z,G x→G y→G z→L x y=true→L y z=true→L x z=true
 as:∀x y,G x→G y→L x y=true→L y x=false
section
variable {prog:Program} {w:World} {A:Around} {E:Value→Shared→Prop} {s:Shared} {k0:SortKind} {G:Keyed→Prop} {L:Keyed→Keyed→Bool}
theorem zha (O:Odr prog w A E s k0 G L) {x y:Keyed} {st:SortSt} {Q:Option Bool→SortSt→Prop} (hx:G x) (hy:G y) (hk:kindOf st=k0) (q:Q (some (L x y)) st):wpS (model prog w) A E s (tlt x y) Q st:=by
 have e:tlt=lt':=PySem.W.Fast.te5462128846355204966.symm
 rw [e]
 exact O.ask x y st Q hx hy hk q
theorem zaq {arr:Array Keyed} {i:Nat} {x:Keyed} {st:SortSt} {Q:Keyed→SortSt→Prop} (h:arr[i]?=some x) (q:Q x st):wpS (model prog w) A E s (telem arr i) Q st:=by
 unfold telem PySem.W.Fast.tw4424054534610556225
 rw [h]
 exact wpS_pure q
theorem ze2 {g:Nat} {st:SortSt} {Q:Unit→SortSt→Prop} (q:Q () (SortSt.mk' (kindOf st) (arrOf st) (pendingOf st) g (failedOf st))):wpS (model prog w) A E s (tset g) Q st:=by
 unfold tset PySem.W.Fast.tw5464061087179277862
 exact wpS_modify q
theorem zmH (O:Odr prog w A E s k0 G L) {left:Bool} {key:Keyed} {arr:Array Keyed} {base n hint k:Nat} {B:Nat→Bool} {st:SortSt} {Q:Option Nat→SortSt→Prop}
  (hB:∀i,i<n→∃x,arr[base+i]?=some x∧G x∧B i=if left=true then L x key else !(L key x)) (Gk:G key) (hn:hint<n) (kn:k≤n) (k1:∀i,i<k→B i=true) (k2:∀i,k≤i→i<n→B i=false) (hk:kindOf st=k0) (q:Q (some k) st):
  wpS (model prog w) A E s (tgal left key arr base n hint) Q st:=by
 have bey:∀i,i<n→∀ {Q:Option Bool→SortSt→Prop},Q (some (B i)) st→wpS (model prog w) A E s (do
   let x ←telem arr (base+i)
   if left=true then tlt x key
    else do
     let r ←tlt key x
     pure (Option.map (fun x => !x) r)) Q st:=fun i hi Q q=>by
  obtain ⟨x,e,gx,eB⟩:=hB i hi
  refine wpS_bind (zaq e ?_)
  cases left with
  | true=>
    rw [if_pos rfl]
    rw [if_pos rfl] at eB
    exact zha O gx Gk hk (by rw [←eB];exact q)
  | false=>
    rw [if_neg (by decide)]
    rw [if_neg (by decide)] at eB
    exact wpS_bind (zha O Gk gx hk (wpS_pure (by show Q (some (!L key x)) st;rw [←eB];exact q)))
 unfold tgal PySem.W.Fast.tw8001965791261037382
 rw [←PySem.W.Fast.te12456147031677567982]
 dsimp only
 refine wpS_bind (bey hint hn ?_)
 dsimp only
 cases e:B hint with
 | true=>
   rw [if_pos rfl]
   have hk1:hint<k:=by
    by_cases z:k≤hint
    ·rw [k2 _ z hn] at e
     cases e
    ·omega
   refine wpS_bind (wpS_mono (wpS_forRange (fun i c st'=>st=st'∧c.1=none∧hint+c.2.1<k∧c.2.1<c.2.2∧i+1≤c.2.2) (Q:=fun c st'=>st=st'∧c.1=none∧hint+c.2.1<k∧(k≤hint+c.2.2∨n-hint≤c.2.2)) ?_ ?_ ?_) ?_)
   ·rintro i ⟨r,la,of⟩ st' _ hi' ⟨rfl,e1,e2,e3,e4⟩
    dsimp only at e1 e2 e3 e4 ⊢
    subst e1
    by_cases c:of ≥ n-hint
    ·rw [if_pos c]
     exact wpS_pure ⟨rfl,rfl,e2,.inr c⟩
    ·rw [if_neg c]
     refine wpS_bind (bey _ (by omega) ?_)
     dsimp only
     cases e':B (hint+of) with
     | true=>
       rw [if_neg (by decide)]
       refine wpS_pure ⟨rfl,rfl,?_,?_,?_⟩
       ·show hint+of<k
        by_cases z:k≤hint+of
        ·rw [k2 _ z (by omega)] at e'
         cases e'
        ·omega
       ·show of<2*of+1
        omega
       ·show i+1+1≤2*of+1
        omega
     | false=>
       rw [if_pos (by decide)]
       refine wpS_pure ⟨rfl,rfl,e2,.inl ?_⟩
       show k≤hint+of
       by_cases z:hint+of<k
       ·rw [k1 _ z] at e'
        cases e'
       ·omega
   ·rintro ⟨r,la,of⟩ st' ⟨rfl,e1,e2,e3,e4⟩
    dsimp only at e1 e2 e3 e4 ⊢
    exact ⟨rfl,e1,e2,.inr (by omega)⟩
   ·exact ⟨rfl,rfl,by show hint+0<k;omega,by show 0<1;omega,by show 0+1≤1;omega⟩
   ·rintro ⟨r,la,of⟩ st' ⟨rfl,e1,e2,e3⟩
    dsimp only at e1 e2 e3 ⊢
    subst e1
    dsimp only
    refine wpS_bind (wpS_mono (wpS_forRange (fun i c st'=>st=st'∧c.1=none∧c.2.1≤k∧k≤c.2.2∧c.2.2≤n∧c.2.2-c.2.1+i≤n) (Q:=fun c st'=>st=st'∧c.1=none∧c.2.2=k) ?_ ?_ ?_) ?_)
    ·rintro i ⟨r,lo,hi⟩ st' _ hi' ⟨rfl,e1,e2,e3,e4,e5⟩
     dsimp only at e1 e2 e3 e4 e5 ⊢
     subst e1
     by_cases c:lo ≥ hi
     ·rw [if_pos c]
      exact wpS_pure ⟨rfl,rfl,by show hi=k;omega⟩
     ·rw [if_neg c]
      refine wpS_bind (bey _ (by omega) ?_)
      dsimp only
      cases e:B (lo+(hi-lo) / 2) with
      | true=>
        rw [if_pos rfl]
        refine wpS_pure ⟨rfl,rfl,?_,e3,e4,?_⟩
        ·show lo+(hi-lo) / 2+1≤k
         by_cases z:k≤lo+(hi-lo) / 2
         ·rw [k2 _ z (by omega)] at e
          cases e
         ·omega
        ·show hi-(lo+(hi-lo) / 2+1)+(i+1)≤n
         omega
      | false=>
        rw [if_neg (by decide)]
        refine wpS_pure ⟨rfl,rfl,e2,?_,?_,?_⟩
        ·show k≤lo+(hi-lo) / 2
         by_cases z:lo+(hi-lo) / 2<k
         ·rw [k1 _ z] at e
          cases e
         ·omega
        ·show lo+(hi-lo) / 2≤n
         omega
        ·show lo+(hi-lo) / 2-lo+(i+1)≤n
         omega
    ·rintro ⟨r,lo,hi⟩ st' ⟨rfl,e1,e2,e3,e4,e5⟩
     dsimp only at e1 e2 e3 e4 e5 ⊢
     refine ⟨rfl,e1,?_⟩
     omega
    ·exact ⟨rfl,rfl,by show hint+la+1≤k;omega,by show k≤hint+min of (n-hint);omega,by show hint+min of (n-hint)≤n;omega,by show hint+min of (n-hint)-(hint+la+1)+0≤n;omega⟩
    ·rintro ⟨r,lo,hi⟩ st' ⟨rfl,e1,e2⟩
     dsimp only at e1 e2 ⊢
     subst e1 e2
     exact wpS_pure q
 | false=>
   rw [if_neg (by decide)]
   have hk1:k≤hint:=by
    by_cases z:hint<k
    ·rw [k1 _ z] at e
     cases e
    ·omega
   refine wpS_bind (wpS_mono (wpS_forRange (fun i c st'=>st=st'∧c.1=none∧k≤hint-c.2.1∧c.2.1≤hint∧c.2.1<c.2.2∧i+1≤c.2.2) (Q:=fun c st'=>st=st'∧c.1=none∧k≤hint-c.2.1∧c.2.1≤hint∧(hint+1≤c.2.2∨hint-c.2.2<k)) ?_ ?_ ?_) ?_)
   ·rintro i ⟨r,la,of⟩ st' _ hi' ⟨rfl,e1,e2,e3,e4,e5⟩
    dsimp only at e1 e2 e3 e4 e5 ⊢
    subst e1
    by_cases c:of ≥ hint+1
    ·rw [if_pos c]
     exact wpS_pure ⟨rfl,rfl,e2,e3,.inl c⟩
    ·rw [if_neg c]
     refine wpS_bind (bey _ (by omega) ?_)
     dsimp only
     cases e':B (hint-of) with
     | true=>
       rw [if_pos rfl]
       refine wpS_pure ⟨rfl,rfl,e2,e3,.inr ?_⟩
       show hint-of<k
       by_cases z:k≤hint-of
       ·rw [k2 _ z (by omega)] at e'
        cases e'
       ·omega
     | false=>
       rw [if_neg (by decide)]
       refine wpS_pure ⟨rfl,rfl,?_,?_,?_,?_⟩
       ·show k≤hint-of
        by_cases z:hint-of<k
        ·rw [k1 _ z] at e'
         cases e'
        ·omega
       ·show of≤hint
        omega
       ·show of<2*of+1
        omega
       ·show i+1+1≤2*of+1
        omega
   ·rintro ⟨r,la,of⟩ st' ⟨rfl,e1,e2,e3,e4,e5⟩
    dsimp only at e1 e2 e3 e4 e5 ⊢
    exact ⟨rfl,e1,e2,e3,.inl (by omega)⟩
   ·exact ⟨rfl,rfl,by show k≤hint-0;omega,by show 0≤hint;omega,by show 0<1;omega,by show 0+1≤1;omega⟩
   ·rintro ⟨r,la,of⟩ st' ⟨rfl,e1,e2,e3,e4⟩
    dsimp only at e1 e2 e3 e4 ⊢
    subst e1
    dsimp only
    refine wpS_bind (wpS_mono (wpS_forRange (fun i c st'=>st=st'∧c.1=none∧c.2.1≤k∧k≤c.2.2∧c.2.2≤n∧c.2.2-c.2.1+i≤n) (Q:=fun c st'=>st=st'∧c.1=none∧c.2.2=k) ?_ ?_ ?_) ?_)
    ·rintro i ⟨r,lo,hi⟩ st' _ hi' ⟨rfl,e1,e2,e3,e4,e5⟩
     dsimp only at e1 e2 e3 e4 e5 ⊢
     subst e1
     by_cases c:lo ≥ hi
     ·rw [if_pos c]
      exact wpS_pure ⟨rfl,rfl,by show hi=k;omega⟩
     ·rw [if_neg c]
      refine wpS_bind (bey _ (by omega) ?_)
      dsimp only
      cases e:B (lo+(hi-lo) / 2) with
      | true=>
        rw [if_pos rfl]
        refine wpS_pure ⟨rfl,rfl,?_,e3,e4,?_⟩
        ·show lo+(hi-lo) / 2+1≤k
         by_cases z:k≤lo+(hi-lo) / 2
         ·rw [k2 _ z (by omega)] at e
          cases e
         ·omega
        ·show hi-(lo+(hi-lo) / 2+1)+(i+1)≤n
         omega
      | false=>
        rw [if_neg (by decide)]
        refine wpS_pure ⟨rfl,rfl,e2,?_,?_,?_⟩
        ·show k≤lo+(hi-lo) / 2
         by_cases z:lo+(hi-lo) / 2<k
         ·rw [k1 _ z] at e
          cases e
         ·omega
        ·show lo+(hi-lo) / 2≤n
         omega
        ·show lo+(hi-lo) / 2-lo+(i+1)≤n
         omega
    ·rintro ⟨r,lo,hi⟩ st' ⟨rfl,e1,e2,e3,e4,e5⟩
     dsimp only at e1 e2 e3 e4 e5 ⊢
     refine ⟨rfl,e1,?_⟩
     omega
    ·exact ⟨rfl,rfl,by show hint+1-min of (hint+1)≤k;omega,by show k≤hint-la;omega,by show hint-la≤n;omega,by show hint-la-(hint+1-min of (hint+1))+0≤n;omega⟩
    ·rintro ⟨r,lo,hi⟩ st' ⟨rfl,e1,e2⟩
     dsimp only at e1 e2 ⊢
     subst e1 e2
     exact wpS_pure q
end
end L2
namespace L2
open PySem PySem.Spec PyProof.Rows PySem.W
section
variable {prog:Program} {w:World} {A:Around} {E:Value→Shared→Prop} {s:Shared} {k0:SortKind} {G:Keyed→Prop} {L:Keyed→Keyed→Bool}
def Inc (L:Keyed→Keyed→Bool) (l:List Keyed):Prop:=l.Pairwise fun x y=>L x y=true
structure Two (G:Keyed→Prop) (L:Keyed→Keyed→Bool) (xs ys:List Keyed):Prop where
 gx:∀x,x∈xs→G x
 gy:∀y,y∈ys→G y
 ix:Inc L xs
 iy:Inc L ys
 tot:∀x y,x∈xs→y∈ys→L x y=true∨L y x=true
 tr:∀x y z,G x→G y→G z→L x y=true→L y z=true→L x z=true
 as:∀x y,G x→G y→L x y=true→L y x=false
theorem Two.swap {xs ys:List Keyed} (T:Two G L xs ys):Two G L ys xs:=⟨T.gy,T.gx,T.iy,T.ix,fun x y hx hy=>(T.tot y x hy hx).symm,T.tr,T.as⟩
structure Mrg (L:Keyed→Keyed→Bool) (xs ys out:List Keyed) (i j:Nat):Prop where
 inc:Inc L out
 pm:out.Perm (xs.take i++ys.take j)
 lo:∀o z,o∈out→(z∈xs.drop i∨z∈ys.drop j)→L o z=true
theorem Inc.cut {l:List Keyed} (h:Inc L l) (i:Nat):Inc L (l.take i)∧Inc L (l.drop i)∧∀x y,x∈l.take i→y∈l.drop i→L x y=true:=by
 unfold Inc at *
 have e:l=l.take i++l.drop i:=(List.take_append_drop i l).symm
 rw [e,List.pairwise_append] at h
 exact ⟨h.1,h.2.1,fun x y hx hy=>h.2.2 x hx y hy⟩
theorem Mrg.b {xs ys out:List Keyed} {i j:Nat} (M:Mrg L xs ys out i j) (iy:Inc L ys) (c:Nat) (h:∀z x,z∈(ys.drop j).take c→x∈xs.drop i→L z x=true):Mrg L xs ys (out++(ys.drop j).take c) i (j+c):=by
 obtain ⟨i1,i2,i3⟩:=iy.cut j
 obtain ⟨j1,j2,j3⟩:=i2.cut c
 rw [List.drop_drop] at j2 j3
 refine ⟨?_,?_,fun o z ho hz=>?_⟩
 ·unfold Inc
  rw [List.pairwise_append]
  exact ⟨M.inc,j1,fun o ho z hz=>M.lo o z ho (.inr (List.mem_of_mem_take hz))⟩
 ·rw [List.take_add,←List.append_assoc]
  exact M.pm.append_right _
 ·rcases List.mem_append.mp ho with ho | ho
  ·refine M.lo o z ho (hz.imp id fun hz=>?_)
   rw [←List.drop_drop] at hz
   exact List.mem_of_mem_drop hz
  ·rcases hz with hz | hz
   ·exact h o z ho hz
   ·exact j3 o z ho hz
theorem Mrg.swap {xs ys out:List Keyed} {i j:Nat} (M:Mrg L xs ys out i j):Mrg L ys xs out j i:=⟨M.inc,M.pm.trans List.perm_append_comm,fun o z ho hz=>M.lo o z ho hz.symm⟩
theorem Mrg.a {xs ys out:List Keyed} {i j:Nat} (M:Mrg L xs ys out i j) (ix:Inc L xs) (c:Nat) (h:∀z y,z∈(xs.drop i).take c→y∈ys.drop j→L z y=true):Mrg L xs ys (out++(xs.drop i).take c) (i+c) j:=(M.swap.b ix c h).swap
theorem Mrg.fin {xs ys out:List Keyed} {i j:Nat} (M:Mrg L xs ys out i j) (ix:Inc L xs) (iy:Inc L ys) (h:∀z x,z∈ys.drop j→x∈xs.drop i→L z x=true):Inc L (out++ys.drop j++xs.drop i)∧(out++ys.drop j++xs.drop i).Perm (xs++ys):=by
 constructor
 ·unfold Inc
  rw [List.append_assoc,List.pairwise_append]
  refine ⟨M.inc,?_,fun o ho z hz=>M.lo o z ho ((List.mem_append.mp hz).symm)⟩
  rw [List.pairwise_append]
  exact ⟨(iy.cut j).2.1,(ix.cut i).2.1,fun z hz x hx=>h z x hz hx⟩
 ·have e1:=List.take_append_drop i xs
  have e2:=List.take_append_drop j ys
  refine ((M.pm.append_right _).append_right _).trans ?_
  refine List.Perm.trans ?_ (List.Perm.of_eq (show xs.take i++xs.drop i++(ys.take j++ys.drop j)=xs++ys by rw [e1,e2]))
  rw [List.append_assoc,List.append_assoc,List.append_assoc]
  refine List.Perm.append_left _ ?_
  rw [←List.append_assoc]
  exact List.perm_append_comm
theorem zdy {l:List Keyed} {y:Keyed} (gl:∀x,x∈l→G x) (gy:G y) (inc:Inc L l) (tot:∀x,x∈l→L x y=true∨L y x=true) (tr:∀x y z,G x→G y→G z→L x y=true→L y z=true→L x z=true):
  ∃k,k≤l.length∧(∀z,z∈l.take k→L z y=true)∧∀z,z∈l.drop k→L y z=true:=by
 induction l with
 | nil=>exact ⟨0,Nat.le_refl _,fun z hz=>by simp at hz,fun z hz=>by simp at hz⟩
 | cons x l ih=>
   obtain ⟨i1,i2⟩:=List.pairwise_cons.mp inc
   rcases tot x List.mem_cons_self with h | h
   ·obtain ⟨k,k1,k2,k3⟩:=ih (fun z hz=>gl z (List.mem_cons_of_mem _ hz)) i2 fun z hz=>tot z (List.mem_cons_of_mem _ hz)
    refine ⟨k+1,Nat.succ_le_succ k1,fun z hz=>?_,fun z hz=>?_⟩
    ·rw [List.take_succ_cons] at hz
     rcases List.mem_cons.mp hz with rfl | hz
     ·exact h
     ·exact k2 z hz
    ·rw [List.drop_succ_cons] at hz
     exact k3 z hz
   ·refine ⟨0,Nat.zero_le _,fun z hz=>by simp at hz,fun z hz=>?_⟩
    rw [List.drop_zero] at hz
    rcases List.mem_cons.mp hz with rfl | hz
    ·exact h
    ·exact tr y x z gy (gl x List.mem_cons_self) (gl z (List.mem_cons_of_mem _ hz)) h (i1 z hz)
theorem zaP {l:List Keyed} {i:Nat} {x:Keyed} (h:l[i]?=some x):l.drop i=x::l.drop (i+1):=by
 obtain ⟨hi,rfl⟩:=List.getElem?_eq_some_iff.mp h
 exact (List.getElem_cons_drop hi).symm
theorem Two.first {xs ys:List Keyed} (T:Two G L xs ys) {i j:Nat} {x y:Keyed} (hx:xs[i]?=some x) (hy:ys[j]?=some y) (h:L y x=true):∀z x',z∈(ys.drop j).take 1→x'∈xs.drop i→L z x'=true:=by
 intro z x' hz hx'
 rw [zaP hy] at hz
 have:z=y:=by simpa using hz
 subst this
 rw [zaP hx] at hx'
 rcases List.mem_cons.mp hx' with rfl | hx'
 ·exact h
 ·have i2:=(T.ix.cut i).2.1
  rw [zaP hx] at i2
  exact T.tr _ _ _ (T.gy _ (List.mem_of_getElem? hy)) (T.gx _ (List.mem_of_getElem? hx)) (T.gx _ (List.mem_of_mem_drop hx')) h ((List.pairwise_cons.mp i2).1 _ hx')
theorem Two.below {xs ys:List Keyed} (T:Two G L xs ys) {i j c:Nat} {y:Keyed} (hy:ys[j]?=some y) (h:∀z,z∈(xs.drop i).take c→L z y=true):∀z y',z∈(xs.drop i).take c→y'∈ys.drop j→L z y'=true:=by
 intro z y' hz hy'
 rw [zaP hy] at hy'
 rcases List.mem_cons.mp hy' with rfl | hy'
 ·exact h z hz
 ·have i2:=(T.iy.cut j).2.1
  rw [zaP hy] at i2
  exact T.tr _ _ _ (T.gx _ (List.mem_of_mem_drop (List.mem_of_mem_take hz))) (T.gy _ (List.mem_of_getElem? hy)) (T.gy _ (List.mem_of_mem_drop hy')) (h z hz) ((List.pairwise_cons.mp i2).1 _ hy')
theorem galL (O:Odr prog w A E s k0 G L) {key:Keyed} {arr:Array Keyed} {l:List Keyed} {base n hint k:Nat} {st:SortSt} {Q:Option Nat→SortSt→Prop} (el:(arr.toList.drop base).take n=l) (ln:l.length=n) (gl:∀x,x∈l→G x) (Gk:G key) (hn:hint<n) (kn:k≤n)
  (k1:∀z,z∈l.take k→L z key=true) (k2:∀z,z∈l.drop k→L key z=true) (hk:kindOf st=k0) (q:Q (some k) st):wpS (model prog w) A E s (tgal true key arr base n hint) Q st∧wpS (model prog w) A E s (tgal false key arr base n hint) Q st:=by
 have at_:∀i,i<n→∃x,arr[base+i]?=some x∧l[i]?=some x∧G x:=fun i hi=>by
  obtain ⟨x,e⟩:∃x,l[i]?=some x:=⟨_,List.getElem?_eq_getElem (show i<l.length by omega)⟩
  refine ⟨x,?_,e,gl _ (List.mem_of_getElem? e)⟩
  rw [←el,List.getElem?_take_of_lt hi,List.getElem?_drop] at e
  rw [←Array.getElem?_toList]
  exact e
 have lo:∀i x,i<k→l[i]?=some x→L x key=true:=fun i x hi e=>k1 x (List.mem_of_getElem? (i:=i) (by rw [List.getElem?_take_of_lt hi];exact e))
 have up:∀i x,k≤i→l[i]?=some x→L key x=true:=fun i x hi e=>k2 x (List.mem_of_getElem? (i:=i-k) (by rw [List.getElem?_drop,show k+(i-k)=i by omega];exact e))
 have key1:∀left,wpS (model prog w) A E s (tgal left key arr base n hint) Q st:=fun left=>by
  refine zmH O (B:=fun i=>decide (i<k)) (k:=k) (fun i hi=>?_) Gk hn kn (fun i hi=>decide_eq_true hi) (fun i hi _=>decide_eq_false (by omega)) hk q
  obtain ⟨x,e1,e2,gx⟩:=at_ i hi
  refine ⟨x,e1,gx,?_⟩
  by_cases c:i<k
  ·have h1:=lo i x c e2
   rw [decide_eq_true c,h1,O.as _ _ gx Gk h1]
   cases left<;>rfl
  ·have h1:=up i x (by omega) e2
   rw [decide_eq_false c,h1,O.as _ _ Gk gx h1]
   cases left<;>rfl
 exact ⟨key1 true,key1 false⟩
end
end L2
namespace L2
open PySem PySem.Spec PyProof.Rows PySem.W
section
variable {prog:Program} {w:World} {A:Around} {E:Value→Shared→Prop} {s:Shared} {k0:SortKind} {G:Keyed→Prop} {L:Keyed→Keyed→Bool}
theorem zeI (a:Array Keyed) (i:Nat):(a.extract i).toList=a.toList.drop i:=by
 rw [Array.toList_extract]
 exact List.take_of_length_le (by simp)
theorem ze3 (a:Array Keyed) (i k:Nat):(a.extract i (i+k)).toList=(a.toList.drop i).take k:=by
 rw [Array.toList_extract]
 show (a.toList.drop i).take (i+k-i)=_
 rw [Nat.add_sub_cancel_left]
theorem zcI {σ:Type} {x:String} {st : σ} {Q:Unit → σ→Prop} (q:Q () st):wpS (model prog w) A E s (liftM (rule x):StateT σ Sem Unit) Q st:=wpS_lift (wpAny_rule ⟨rfl,q⟩)
theorem znn (O:Odr prog w A E s k0 G L) {a b:Array Keyed} {a0:Array Keyed} {p:Array (Nat × Nat × Nat)} {g:Nat} {Q:Array Keyed→SortSt→Prop} (T:Two G L a.toList b.toList) (na:1≤a.size) (nb:1≤b.size)
  (h0:∀y x,b.toList[0]?=some y→x∈a.toList→L y x=true) (hl:∀x y,a.toList[a.size-1]?=some x→y∈b.toList→L y x=true)
  (q:∀r g',Inc L r.toList→r.toList.Perm (a.toList++b.toList)→Q r (SortSt.mk' k0 a0 p g' none)):
  wpS (model prog w) A E s (tlo a b) Q (SortSt.mk' k0 a0 p g none):=by
 have la:a.toList.length=a.size:=Array.length_toList
 have lb:b.toList.length=b.size:=Array.length_toList
 have ea:∀i,i<a.size→∃x,a[i]?=some x∧a.toList[i]?=some x∧G x:=fun i hi=>by
  have e:=Array.getElem?_eq_getElem hi
  exact ⟨_,e,by rw [Array.getElem?_toList];exact e,T.gx _ (List.mem_of_getElem? (i:=i) (by rw [Array.getElem?_toList];exact e))⟩
 have eb:∀i,i<b.size→∃x,b[i]?=some x∧b.toList[i]?=some x∧G x:=fun i hi=>by
  have e:=Array.getElem?_eq_getElem hi
  exact ⟨_,e,by rw [Array.getElem?_toList];exact e,T.gy _ (List.mem_of_getElem? (i:=i) (by rw [Array.getElem?_toList];exact e))⟩
 have done1:∀ {out:Array Keyed} {ia ib:Nat},Mrg L a.toList b.toList out.toList ia ib→ib=b.size→Inc L (out++a.extract ia++b.extract ib).toList∧(out++a.extract ia++b.extract ib).toList.Perm (a.toList++b.toList):=fun {out ia ib} M e=>by
  have z:b.toList.drop ib=[]:=List.drop_eq_nil_of_le (by omega)
  have:=M.fin T.ix T.iy fun z' x hz=>by rw [z] at hz;cases hz
  rw [Array.toList_append,Array.toList_append,zeI,zeI,z,List.append_nil]
  rw [z,List.append_nil] at this
  exact this
 have done0:∀ {out:Array Keyed} {ia ib:Nat},Mrg L a.toList b.toList out.toList ia ib→ia=a.size→Inc L (out++a.extract ia++b.extract ib).toList∧(out++a.extract ia++b.extract ib).toList.Perm (a.toList++b.toList):=fun {out ia ib} M e=>by
  have z:a.toList.drop ia=[]:=List.drop_eq_nil_of_le (by omega)
  have:=M.fin T.ix T.iy fun z' x _ hz=>by rw [z] at hz;cases hz
  rw [Array.toList_append,Array.toList_append,zeI,zeI,z,List.append_nil]
  rw [z,List.append_nil] at this
  exact this
 have lastA:∀ {out:Array Keyed} {ia ib:Nat},Mrg L a.toList b.toList out.toList ia ib→ia+1=a.size→Inc L (out++b.extract ib++a.extract ia).toList∧(out++b.extract ib++a.extract ia).toList.Perm (a.toList++b.toList):=fun {out ia ib} M e=>by
  obtain ⟨x,_,e2,_⟩:=ea ia (by omega)
  have:=M.fin T.ix T.iy fun z x' hz hx=>by
   rw [zaP e2,List.drop_eq_nil_of_le (by omega)] at hx
   have:x'=x:=by simpa using hx
   subst this
   exact hl x' z (by rw [show a.size-1=ia by omega];exact e2) (List.mem_of_mem_drop hz)
  rw [Array.toList_append,Array.toList_append,zeI,zeI]
  exact this
 unfold tlo PySem.W.Fast.tw17852939151971871240
 rw [←PySem.W.Fast.te12456147031677567982,←PySem.W.Fast.te2398297429280069960,←PySem.W.Fast.te8050958516035322399,←PySem.W.Fast.te494991955013373658]
 dsimp only
 refine wpS_bind (zcI ?_)
 obtain ⟨y0,y1,y2,y3⟩:=eb 0 (by omega)
 refine wpS_bind (zaq y1 ?_)
 have M0:Mrg L a.toList b.toList (#[y0]:Array Keyed).toList 0 1:=by
  refine ⟨List.pairwise_singleton _ _,?_,fun o z ho hz=>?_⟩
  ·rw [List.take_zero,List.nil_append,show b.toList=y0::b.toList.drop 1 from zaP y2]
   exact List.Perm.refl _
  ·have:o=y0:=by simpa using ho
   subst this
   rcases hz with hz | hz
   ·rw [List.drop_zero] at hz
    exact h0 o z y2 hz
   ·have iy:=T.iy
    rw [show b.toList=o::b.toList.drop 1 from zaP y2] at iy
    exact (List.pairwise_cons.mp iy).1 z hz
 by_cases c1:1=b.size
 ·rw [if_pos (beq_iff_eq.mpr c1)]
  have:=done1 M0 c1
  exact wpS_pure (q _ _ this.1 this.2)
 rw [if_neg (fun z=>c1 (beq_iff_eq.mp z))]
 by_cases c2:0+1=a.size
 ·rw [if_pos (beq_iff_eq.mpr c2)]
  have:=lastA M0 c2
  exact wpS_pure (q _ _ this.1 this.2)
 rw [if_neg (fun z=>c2 (beq_iff_eq.mp z))]
 refine wpS_bind (wpS_get (wpS_bind (wpS_mono (wpS_forRange (fun i c st=>∃g',st=SortSt.mk' k0 a0 p g' none∧c.1=none∧Mrg L a.toList b.toList c.2.1.toList c.2.2.1 c.2.2.2.1∧c.2.2.1+1<a.size∧c.2.2.2.1<b.size∧i+1≤c.2.2.1+c.2.2.2.1)
  (Q:=fun c st=>∃g' r,st=SortSt.mk' k0 a0 p g' none∧c.1=some r∧Inc L r.toList∧r.toList.Perm (a.toList++b.toList)) ?_ ?_ ?_) ?_)))
 ·rintro i ⟨r,out,ia,ib,mg⟩ st _ hi ⟨g',rfl,e1,M,e2,e3,e4⟩
  dsimp only at e1 M e2 e3 e4 ⊢
  subst e1
  refine wpS_bind (wpS_mono (wpS_forRange (fun j c st=>st=SortSt.mk' k0 a0 p g' none∧c.1=none∧Mrg L a.toList b.toList c.2.1.toList c.2.2.1 c.2.2.2.1∧c.2.2.1+1<a.size∧c.2.2.2.1<b.size∧i+1≤c.2.2.1+c.2.2.2.1)
   (Q:=fun c st=>st=SortSt.mk' k0 a0 p g' none∧((∃r,c.1=some r∧Inc L r.toList∧r.toList.Perm (a.toList++b.toList))∨(c.1=none∧Mrg L a.toList b.toList c.2.1.toList c.2.2.1 c.2.2.2.1∧c.2.2.1+1<a.size∧c.2.2.2.1<b.size∧i+1≤c.2.2.1+c.2.2.2.1))) ?_ ?_ ?_) ?_)
  ·rintro j ⟨r,out,ia,ib,ac,bc⟩ st _ hj ⟨rfl,e1,M,e2,e3,e4⟩
   dsimp only at e1 M e2 e3 e4 ⊢
   subst e1
   obtain ⟨y,yb1,yb2,gy⟩:=eb ib e3
   obtain ⟨x,xa1,xa2,gx⟩:=ea ia (by omega)
   refine wpS_bind (zaq yb1 (wpS_bind (zaq xa1 (wpS_bind (zha O gy gx rfl ?_)))))
   dsimp only
   cases c:L y x with
   | true=>
     rw [if_pos rfl]
     refine wpS_bind (zaq yb1 ?_)
     have M1:Mrg L a.toList b.toList (out.push y).toList ia (ib+1):=by
      have:=M.b T.iy 1 (T.first xa2 yb2 c)
      rw [zaP yb2] at this
      rw [Array.toList_push]
      exact this
     by_cases c3:ib+1=b.size
     ·rw [if_pos (beq_iff_eq.mpr c3)]
      exact wpS_pure ⟨rfl,.inl ⟨_,rfl,done1 M1 c3⟩⟩
     ·rw [if_neg (fun z=>c3 (beq_iff_eq.mp z))]
      split
      ·exact wpS_pure ⟨rfl,.inr ⟨rfl,M1,e2,by show ib+1<b.size;omega,by show i+1≤ia+(ib+1);omega⟩⟩
      ·exact wpS_pure ⟨rfl,rfl,M1,e2,by show ib+1<b.size;omega,by show i+1≤ia+(ib+1);omega⟩
   | false=>
     rw [if_neg (by decide)]
     refine wpS_bind (zaq xa1 ?_)
     have c':L x y=true:=by
      rcases T.tot x y (List.mem_of_getElem? xa2) (List.mem_of_getElem? yb2) with h | h
      ·exact h
      ·rw [h] at c;cases c
     have M1:Mrg L a.toList b.toList (out.push x).toList (ia+1) ib:=by
      have:=M.a T.ix 1 (T.swap.first yb2 xa2 c')
      rw [zaP xa2] at this
      rw [Array.toList_push]
      exact this
     by_cases c3:ia+1+1=a.size
     ·rw [if_pos (beq_iff_eq.mpr c3)]
      exact wpS_pure ⟨rfl,.inl ⟨_,rfl,lastA M1 c3⟩⟩
     ·rw [if_neg (fun z=>c3 (beq_iff_eq.mp z))]
      split
      ·exact wpS_pure ⟨rfl,.inr ⟨rfl,M1,by show ia+1+1<a.size;omega,e3,by show i+1≤ia+1+ib;omega⟩⟩
      ·exact wpS_pure ⟨rfl,rfl,M1,by show ia+1+1<a.size;omega,e3,by show i+1≤ia+1+ib;omega⟩
  ·rintro c st ⟨e0,e1,M,e2,e3,e4⟩
   exact ⟨e0,.inr ⟨e1,M,e2,e3,e4⟩⟩
  ·exact ⟨rfl,rfl,M,e2,e3,e4⟩
  ·rintro ⟨r1,out1,ia1,ib1,ac1,bc1⟩ st ⟨rfl,h⟩
   dsimp only at h ⊢
   rcases h with ⟨r,e,hr⟩ | ⟨e,M,e2,e3,e4⟩
   ·subst e
    exact wpS_pure ⟨g',r,rfl,rfl,hr⟩
   subst e
   dsimp only
   refine wpS_bind (zcI ?_)
   refine wpS_bind (wpS_mono (wpS_forRange (fun j c st=>∃g',st=SortSt.mk' k0 a0 p g' none∧c.1=none∧Mrg L a.toList b.toList c.2.1.toList c.2.2.1 c.2.2.2.1∧c.2.2.1+1<a.size∧c.2.2.2.1<b.size∧i+1+j≤c.2.2.1+c.2.2.2.1)
    (Q:=fun c st=>∃g',st=SortSt.mk' k0 a0 p g' none∧((∃r,c.1=some r∧Inc L r.toList∧r.toList.Perm (a.toList++b.toList))∨(c.1=none∧Mrg L a.toList b.toList c.2.1.toList c.2.2.1 c.2.2.2.1∧c.2.2.1+1<a.size∧c.2.2.2.1<b.size∧i+2≤c.2.2.1+c.2.2.2.1))) ?_ ?_ ?_) ?_)
   ·rintro j ⟨r,out,ia,ib,mg2,ac,bc⟩ st _ hj ⟨g2,rfl,e1,M,e2,e3,e4⟩
    dsimp only at e1 M e2 e3 e4 ⊢
    subst e1
    obtain ⟨y,yb1,yb2,gy⟩:=eb ib e3
    have gl:∀x,x∈a.toList.drop ia→G x:=fun x hx=>T.gx x (List.mem_of_mem_drop hx)
    obtain ⟨k,kl,k1,k2⟩:=zdy (l:=a.toList.drop ia) (y:=y) gl gy (T.ix.cut ia).2.1 (fun x hx=>T.tot x y (List.mem_of_mem_drop hx) (List.mem_of_getElem? yb2)) O.tr
    have lk:(a.toList.drop ia).length=a.size-ia:=by rw [List.length_drop,la]
    have kn:k<a.size-ia:=by
     by_cases z:k<a.size-ia
     ·exact z
     ·obtain ⟨x,_,x2,gx⟩:=ea (a.size-1) (by omega)
      have hx:x∈(a.toList.drop ia).take k:=by
       rw [List.take_of_length_le (by omega)]
       refine List.mem_of_getElem? (i:=a.size-1-ia) ?_
       rw [List.getElem?_drop,show ia+(a.size-1-ia)=a.size-1 by omega]
       exact x2
      have:=O.as _ _ gx gy (k1 x hx)
      rw [hl x y x2 (List.mem_of_getElem? yb2)] at this
      cases this
    have Ma:=M.a T.ix k (T.below yb2 k1)
    rw [List.drop_drop] at k2
    by_cases cg:mg2 > 1
    all_goals
     first | rw [if_pos cg] | rw [if_neg cg]
     refine wpS_bind (ze2 (wpS_bind (zaq yb1 ?_)))
     refine wpS_bind ((galL O (l:=a.toList.drop ia) (List.take_of_length_le (by omega)) lk gl gy (by omega) (by omega) k1 (by rw [List.drop_drop];exact k2) rfl ?_).2)
     dsimp only
     by_cases ck:k > 0
     ·rw [if_pos ck]
      by_cases c3:ia+k+1=a.size
      ·rw [if_pos (beq_iff_eq.mpr c3)]
       exact wpS_pure ⟨_,rfl,.inl ⟨_,rfl,lastA (out:=out++a.extract ia (ia+k)) (by rw [Array.toList_append,ze3];exact Ma) c3⟩⟩
      rw [if_neg (fun z=>c3 (beq_iff_eq.mp z)),if_neg (fun z=>by have:=beq_iff_eq.mp z;omega)]
      have M':Mrg L a.toList b.toList (out++a.extract ia (ia+k)).toList (ia+k) ib:=by rw [Array.toList_append,ze3];exact Ma
      have i':ia+k+1<a.size:=by omega
      have s':i+1+j≤ia+k+ib:=by omega
      clear Ma c3 kn lk gl kl k1 M e2 e4 ck
      generalize out++a.extract ia (ia+k)=out' at M' ⊢
      generalize ia+k=ia' at k2 M' i' s' ⊢
      refine wpS_bind (zaq yb1 ?_)
      have Mb:Mrg L a.toList b.toList (out'.push y).toList ia' (ib+1):=by
       have:=M'.b T.iy 1 fun z x hz hx=>by
        rw [zaP yb2] at hz
        have:z=y:=by simpa using hz
        subst this
        exact k2 x hx
       rw [zaP yb2] at this
       rw [Array.toList_push]
       exact this
      by_cases c4:ib+1=b.size
      ·rw [if_pos (beq_iff_eq.mpr c4)]
       exact wpS_pure ⟨_,rfl,.inl ⟨_,rfl,done1 Mb c4⟩⟩
      rw [if_neg (fun z=>c4 (beq_iff_eq.mp z))]
      obtain ⟨x,xa1,xa2,gx⟩:=ea ia' (by omega)
      refine wpS_bind (zaq xa1 ?_)
      have gl:∀z,z∈b.toList.drop (ib+1)→G z:=fun z hz=>T.gy z (List.mem_of_mem_drop hz)
      have lk:(b.toList.drop (ib+1)).length=b.size-(ib+1):=by rw [List.length_drop,lb]
      obtain ⟨k',kl',k1',k2'⟩:=zdy (l:=b.toList.drop (ib+1)) (y:=x) gl gx (T.iy.cut (ib+1)).2.1 (fun z hz=>(T.tot x z (List.mem_of_getElem? xa2) (List.mem_of_mem_drop hz)).symm) O.tr
      refine wpS_bind ((galL O (l:=b.toList.drop (ib+1)) (List.take_of_length_le (by omega)) lk gl gx (by omega) (by omega) k1' k2' rfl ?_).1)
      dsimp only
      have Mc:=Mb.b T.iy k' (T.swap.below xa2 k1')
      rw [List.drop_drop] at k2'
      by_cases ck':k' > 0
      ·rw [if_pos ck']
       have M2:Mrg L a.toList b.toList (out'.push y++b.extract (ib+1) (ib+1+k')).toList ia' (ib+1+k'):=by rw [Array.toList_append,ze3];exact Mc
       by_cases c5:ib+1+k'=b.size
       ·rw [if_pos (beq_iff_eq.mpr c5)]
        exact wpS_pure ⟨_,rfl,.inl ⟨_,rfl,done1 M2 c5⟩⟩
       rw [if_neg (fun z=>c5 (beq_iff_eq.mp z))]
       have j':ib+1+k'<b.size:=by omega
       have t':i+1+j+1≤ia'+(ib+1+k'):=by omega
       clear Mc c5 lk gl kl' k1' ck' Mb M' s' c4 yb1 yb2 e3 k2
       generalize out'.push y++b.extract (ib+1) (ib+1+k')=out2 at M2 ⊢
       generalize ib+1+k'=ib2 at k2' M2 j' t' ⊢
       refine wpS_bind (zaq xa1 ?_)
       have Md:Mrg L a.toList b.toList (out2.push x).toList (ia'+1) ib2:=by
        have:=M2.a T.ix 1 fun z v hz hv=>by
         rw [zaP xa2] at hz
         have:z=x:=by simpa using hz
         subst this
         exact k2' v hv
        rw [zaP xa2] at this
        rw [Array.toList_push]
        exact this
       by_cases c6:ia'+1+1=a.size
       ·rw [if_pos (beq_iff_eq.mpr c6)]
        exact wpS_pure ⟨_,rfl,.inl ⟨_,rfl,lastA Md c6⟩⟩
       rw [if_neg (fun z=>c6 (beq_iff_eq.mp z))]
       split
       ·exact wpS_pure ⟨_,rfl,.inr ⟨rfl,Md,by show ia'+1+1<a.size;omega,j',by show i+2≤ia'+1+ib2;omega⟩⟩
       ·exact wpS_pure ⟨_,rfl,rfl,Md,by show ia'+1+1<a.size;omega,j',by show i+1+(j+1)≤ia'+1+ib2;omega⟩
      ·rw [if_neg ck']
       have k0':k'=0:=by omega
       subst k0'
       rw [Nat.add_zero] at k2'
       have M2:=Mb
       have j':ib+1<b.size:=by omega
       have t':i+1+j+1≤ia'+(ib+1):=by omega
       clear Mc lk gl kl' k1' ck' Mb M' s' c4 yb1 yb2 e3 k2
       generalize out'.push y=out2 at M2 ⊢
       generalize ib+1=ib2 at k2' M2 j' t' ⊢
       refine wpS_bind (zaq xa1 ?_)
       have Md:Mrg L a.toList b.toList (out2.push x).toList (ia'+1) ib2:=by
        have:=M2.a T.ix 1 fun z v hz hv=>by
         rw [zaP xa2] at hz
         have:z=x:=by simpa using hz
         subst this
         exact k2' v hv
        rw [zaP xa2] at this
        rw [Array.toList_push]
        exact this
       by_cases c6:ia'+1+1=a.size
       ·rw [if_pos (beq_iff_eq.mpr c6)]
        exact wpS_pure ⟨_,rfl,.inl ⟨_,rfl,lastA Md c6⟩⟩
       rw [if_neg (fun z=>c6 (beq_iff_eq.mp z))]
       split
       ·exact wpS_pure ⟨_,rfl,.inr ⟨rfl,Md,by show ia'+1+1<a.size;omega,j',by show i+2≤ia'+1+ib2;omega⟩⟩
       ·exact wpS_pure ⟨_,rfl,rfl,Md,by show ia'+1+1<a.size;omega,j',by show i+1+(j+1)≤ia'+1+ib2;omega⟩
     ·rw [if_neg ck]
      have k0':k=0:=by omega
      subst k0'
      rw [Nat.add_zero] at k2
      have M':=M
      have i':=e2
      have s':=e4
      clear Ma kn lk gl kl k1 M e2 e4 ck
      generalize out=out' at M' ⊢
      generalize ia=ia' at k2 M' i' s' ⊢
      refine wpS_bind (zaq yb1 ?_)
      have Mb:Mrg L a.toList b.toList (out'.push y).toList ia' (ib+1):=by
       have:=M'.b T.iy 1 fun z x hz hx=>by
        rw [zaP yb2] at hz
        have:z=y:=by simpa using hz
        subst this
        exact k2 x hx
       rw [zaP yb2] at this
       rw [Array.toList_push]
       exact this
      by_cases c4:ib+1=b.size
      ·rw [if_pos (beq_iff_eq.mpr c4)]
       exact wpS_pure ⟨_,rfl,.inl ⟨_,rfl,done1 Mb c4⟩⟩
      rw [if_neg (fun z=>c4 (beq_iff_eq.mp z))]
      obtain ⟨x,xa1,xa2,gx⟩:=ea ia' (by omega)
      refine wpS_bind (zaq xa1 ?_)
      have gl:∀z,z∈b.toList.drop (ib+1)→G z:=fun z hz=>T.gy z (List.mem_of_mem_drop hz)
      have lk:(b.toList.drop (ib+1)).length=b.size-(ib+1):=by rw [List.length_drop,lb]
      obtain ⟨k',kl',k1',k2'⟩:=zdy (l:=b.toList.drop (ib+1)) (y:=x) gl gx (T.iy.cut (ib+1)).2.1 (fun z hz=>(T.tot x z (List.mem_of_getElem? xa2) (List.mem_of_mem_drop hz)).symm) O.tr
      refine wpS_bind ((galL O (l:=b.toList.drop (ib+1)) (List.take_of_length_le (by omega)) lk gl gx (by omega) (by omega) k1' k2' rfl ?_).1)
      dsimp only
      have Mc:=Mb.b T.iy k' (T.swap.below xa2 k1')
      rw [List.drop_drop] at k2'
      by_cases ck':k' > 0
      ·rw [if_pos ck']
       have M2:Mrg L a.toList b.toList (out'.push y++b.extract (ib+1) (ib+1+k')).toList ia' (ib+1+k'):=by rw [Array.toList_append,ze3];exact Mc
       by_cases c5:ib+1+k'=b.size
       ·rw [if_pos (beq_iff_eq.mpr c5)]
        exact wpS_pure ⟨_,rfl,.inl ⟨_,rfl,done1 M2 c5⟩⟩
       rw [if_neg (fun z=>c5 (beq_iff_eq.mp z))]
       have j':ib+1+k'<b.size:=by omega
       have t':i+1+j+1≤ia'+(ib+1+k'):=by omega
       clear Mc c5 lk gl kl' k1' ck' Mb M' s' c4 yb1 yb2 e3 k2
       generalize out'.push y++b.extract (ib+1) (ib+1+k')=out2 at M2 ⊢
       generalize ib+1+k'=ib2 at k2' M2 j' t' ⊢
       refine wpS_bind (zaq xa1 ?_)
       have Md:Mrg L a.toList b.toList (out2.push x).toList (ia'+1) ib2:=by
        have:=M2.a T.ix 1 fun z v hz hv=>by
         rw [zaP xa2] at hz
         have:z=x:=by simpa using hz
         subst this
         exact k2' v hv
        rw [zaP xa2] at this
        rw [Array.toList_push]
        exact this
       by_cases c6:ia'+1+1=a.size
       ·rw [if_pos (beq_iff_eq.mpr c6)]
        exact wpS_pure ⟨_,rfl,.inl ⟨_,rfl,lastA Md c6⟩⟩
       rw [if_neg (fun z=>c6 (beq_iff_eq.mp z))]
       split
       ·exact wpS_pure ⟨_,rfl,.inr ⟨rfl,Md,by show ia'+1+1<a.size;omega,j',by show i+2≤ia'+1+ib2;omega⟩⟩
       ·exact wpS_pure ⟨_,rfl,rfl,Md,by show ia'+1+1<a.size;omega,j',by show i+1+(j+1)≤ia'+1+ib2;omega⟩
      ·rw [if_neg ck']
       have k0':k'=0:=by omega
       subst k0'
       rw [Nat.add_zero] at k2'
       have M2:=Mb
       have j':ib+1<b.size:=by omega
       have t':i+1+j+1≤ia'+(ib+1):=by omega
       clear Mc lk gl kl' k1' ck' Mb M' s' c4 yb1 yb2 e3 k2
       generalize out'.push y=out2 at M2 ⊢
       generalize ib+1=ib2 at k2' M2 j' t' ⊢
       refine wpS_bind (zaq xa1 ?_)
       have Md:Mrg L a.toList b.toList (out2.push x).toList (ia'+1) ib2:=by
        have:=M2.a T.ix 1 fun z v hz hv=>by
         rw [zaP xa2] at hz
         have:z=x:=by simpa using hz
         subst this
         exact k2' v hv
        rw [zaP xa2] at this
        rw [Array.toList_push]
        exact this
       by_cases c6:ia'+1+1=a.size
       ·rw [if_pos (beq_iff_eq.mpr c6)]
        exact wpS_pure ⟨_,rfl,.inl ⟨_,rfl,lastA Md c6⟩⟩
       rw [if_neg (fun z=>c6 (beq_iff_eq.mp z))]
       split
       ·exact wpS_pure ⟨_,rfl,.inr ⟨rfl,Md,by show ia'+1+1<a.size;omega,j',by show i+2≤ia'+1+ib2;omega⟩⟩
       ·exact wpS_pure ⟨_,rfl,rfl,Md,by show ia'+1+1<a.size;omega,j',by show i+1+(j+1)≤ia'+1+ib2;omega⟩
   ·rintro c st ⟨g2,e0,e1,M,e2,e3,e4⟩
    exact ⟨g2,e0,.inr ⟨e1,M,e2,e3,by omega⟩⟩
   ·exact ⟨g',rfl,rfl,M,e2,e3,by show i+1+0≤_;omega⟩
   ·rintro ⟨r2,out2,ia2,ib2,mg2,ac2,bc2⟩ st ⟨g2,rfl,h⟩
    dsimp only at h ⊢
    rcases h with ⟨r,e,hr⟩ | ⟨e,M,e2,e3,e4⟩
    ·subst e
     exact wpS_pure ⟨g2,r,rfl,rfl,hr⟩
    ·subst e
     dsimp only
     exact wpS_bind (ze2 (wpS_pure ⟨_,rfl,rfl,M,e2,e3,e4⟩))
 ·rintro ⟨r,out,ia,ib,mg⟩ st ⟨g',rfl,e1,M,e2,e3,e4⟩
  dsimp only at e1 M e2 e3 e4 ⊢
  omega
 ·exact ⟨_,rfl,rfl,M0,by show 0+1<a.size;omega,by show 1<b.size;omega,by show 0+1≤0+1;omega⟩
 ·rintro ⟨r,out,ia,ib,mg⟩ st ⟨g',r',rfl,e,hr⟩
  dsimp only at e ⊢
  subst e
  exact wpS_pure (q _ _ hr.1 hr.2)
end
end L2
namespace L2
open PySem PySem.Spec PyProof.Rows PySem.W
section
variable {prog:Program} {w:World} {A:Around} {E:Value→Shared→Prop} {s:Shared} {k0:SortKind} {G:Keyed→Prop} {L:Keyed→Keyed→Bool}
structure Hrg (L:Keyed→Keyed→Bool) (xs ys R:List Keyed) (i j:Nat):Prop where
 inc:Inc L R
 pm:R.Perm (xs.drop i++ys.drop j)
 hi:∀o z,o∈R→(z∈xs.take i∨z∈ys.take j)→L z o=true
theorem Hrg.b {xs ys R:List Keyed} {i j:Nat} (M:Hrg L xs ys R i j) (iy:Inc L ys) (c:Nat) (cj:c≤j) (h:∀z x,z∈(ys.take j).drop c→x∈xs.take i→L x z=true):Hrg L xs ys ((ys.take j).drop c++R) i c:=by
 obtain ⟨i1,i2,i3⟩:=iy.cut j
 obtain ⟨j1,j2,j3⟩:=i1.cut c
 have tt:(ys.take j).take c=ys.take c:=by rw [List.take_take,Nat.min_eq_left cj]
 rw [tt] at j1 j3
 have dd:ys.drop c=(ys.take j).drop c++ys.drop j:=by
  have e:ys=ys.take j++ys.drop j:=(List.take_append_drop j ys).symm
  by_cases z:j≤ys.length
  ·have l1:(ys.take j).length=j:=by rw [List.length_take];omega
   conv=>lhs;rw [e]
   rw [List.drop_append_of_le_length (by omega)]
  ·rw [List.take_of_length_le (by omega),List.drop_eq_nil_of_le (i:=j) (by omega),List.append_nil]
 refine ⟨?_,?_,fun o z ho hz=>?_⟩
 ·unfold Inc
  rw [List.pairwise_append]
  exact ⟨j2,M.inc,fun z hz o ho=>M.hi o z ho (.inr (List.mem_of_mem_drop hz))⟩
 ·rw [dd]
  refine List.perm_append_comm.trans ((M.pm.append_right _).trans ?_)
  rw [List.append_assoc]
  exact List.Perm.append_left _ List.perm_append_comm
 ·rcases List.mem_append.mp ho with ho | ho
  ·rcases hz with hz | hz
   ·exact h o z ho hz
   ·exact j3 z o hz ho
  ·refine M.hi o z ho (hz.imp id fun hz=>?_)
   rw [←tt] at hz
   exact List.mem_of_mem_take hz
theorem Hrg.swap {xs ys R:List Keyed} {i j:Nat} (M:Hrg L xs ys R i j):Hrg L ys xs R j i:=⟨M.inc,M.pm.trans List.perm_append_comm,fun o z ho hz=>M.hi o z ho hz.symm⟩
theorem Hrg.a {xs ys R:List Keyed} {i j:Nat} (M:Hrg L xs ys R i j) (ix:Inc L xs) (c:Nat) (ci:c≤i) (h:∀z y,z∈(xs.take i).drop c→y∈ys.take j→L y z=true):Hrg L xs ys ((xs.take i).drop c++R) c j:=(M.swap.b ix c ci h).swap
theorem Hrg.fin {xs ys R:List Keyed} {i j:Nat} (M:Hrg L xs ys R i j) (ix:Inc L xs) (iy:Inc L ys) (h:∀z x,z∈ys.take j→x∈xs.take i→L x z=true):Inc L (xs.take i++ys.take j++R)∧(xs.take i++ys.take j++R).Perm (xs++ys):=by
 constructor
 ·unfold Inc
  rw [List.pairwise_append]
  refine ⟨?_,M.inc,fun z hz o ho=>M.hi o z ho (List.mem_append.mp hz)⟩
  rw [List.pairwise_append]
  exact ⟨(ix.cut i).1,(iy.cut j).1,fun x hx z hz=>h z x hz hx⟩
 ·have e1:=List.take_append_drop i xs
  have e2:=List.take_append_drop j ys
  refine (List.Perm.append_left _ M.pm).trans ?_
  refine List.Perm.trans ?_ (List.Perm.of_eq (show xs.take i++xs.drop i++(ys.take j++ys.drop j)=xs++ys by rw [e1,e2]))
  rw [List.append_assoc,List.append_assoc]
  refine List.Perm.append_left _ ?_
  rw [←List.append_assoc,←List.append_assoc]
  exact List.perm_append_comm.append_right _
theorem zbp {l:List Keyed} {i:Nat} {x:Keyed} (h:l[i]?=some x):l.take (i+1)=l.take i++[x]:=by
 rw [List.take_add_one,h]
 rfl
theorem Two.last {xs ys:List Keyed} (T:Two G L xs ys) {i j:Nat} {x y:Keyed} (hx:xs[i]?=some x) (hy:ys[j]?=some y) (h:L x y=true):∀z x',z∈(ys.take (j+1)).drop j→x'∈xs.take (i+1)→L x' z=true:=by
 intro z x' hz hx'
 have jl:=(List.getElem?_eq_some_iff.mp hy).1
 rw [zbp hy,List.drop_append_of_le_length (by rw [List.length_take];omega),List.drop_eq_nil_of_le (by rw [List.length_take];omega),List.nil_append] at hz
 have:z=y:=by simpa using hz
 subst this
 rw [zbp hx] at hx'
 rcases List.mem_append.mp hx' with hx' | hx'
 ·have i2:=(T.ix.cut (i+1)).1
  unfold Inc at i2
  rw [zbp hx,List.pairwise_append] at i2
  exact T.tr _ _ _ (T.gx _ (List.mem_of_mem_take hx')) (T.gx _ (List.mem_of_getElem? hx)) (T.gy _ (List.mem_of_getElem? hy)) (i2.2.2 _ hx' x (by simp)) h
 ·have:x'=x:=by simpa using hx'
  subst this
  exact h
theorem Two.above {xs ys:List Keyed} (T:Two G L xs ys) {i j c:Nat} {y:Keyed} (hy:ys[j]?=some y) (h:∀z,z∈(xs.take i).drop c→L y z=true):∀z y',z∈(xs.take i).drop c→y'∈ys.take (j+1)→L y' z=true:=by
 intro z y' hz hy'
 rw [zbp hy] at hy'
 rcases List.mem_append.mp hy' with hy' | hy'
 ·have i2:=(T.iy.cut (j+1)).1
  unfold Inc at i2
  rw [zbp hy,List.pairwise_append] at i2
  exact T.tr _ _ _ (T.gy _ (List.mem_of_mem_take hy')) (T.gy _ (List.mem_of_getElem? hy)) (T.gx _ (List.mem_of_mem_take (List.mem_of_mem_drop hz))) (i2.2.2 _ hy' y (by simp)) (h z hz)
 ·have:y'=y:=by simpa using hy'
  subst this
  exact h z hz
theorem zbq {l:List Keyed} {i:Nat} {x:Keyed} (h:l[i]?=some x):(l.take (i+1)).drop i=[x]:=by
 have jl:=(List.getElem?_eq_some_iff.mp h).1
 rw [zbp h,List.drop_append_of_le_length (by rw [List.length_take];omega),List.drop_eq_nil_of_le (by rw [List.length_take];omega),List.nil_append]
theorem ze4 (a:Array Keyed) (i:Nat):(a.extract 0 i).toList=a.toList.take i:=by
 rw [Array.toList_extract]
 show (a.toList.drop 0).take (i-0)=_
 rw [List.drop_zero,Nat.sub_zero]
theorem zfQ (a:Array Keyed) (i j:Nat):(a.extract i j).toList=(a.toList.take j).drop i:=by
 rw [Array.toList_extract]
 show (a.toList.drop i).take (j-i)=_
 rw [List.drop_take]
theorem zb3 (out:Array Keyed) (x:Keyed):(out.push x).toList.reverse=[x]++out.toList.reverse:=by
 rw [Array.toList_push,List.reverse_append]
 rfl
theorem zgs (out c:Array Keyed):(out++c.reverse).toList.reverse=c.toList++out.toList.reverse:=by
 rw [Array.toList_append,List.reverse_append,Array.toList_reverse,List.reverse_reverse]
theorem zno (O:Odr prog w A E s k0 G L) {a b:Array Keyed} {a0:Array Keyed} {p:Array (Nat × Nat × Nat)} {g:Nat} {Q:Array Keyed→SortSt→Prop} (T:Two G L a.toList b.toList) (na1:1≤a.size) (nb1:1≤b.size)
  (h0:∀y x,b.toList[0]?=some y→x∈a.toList→L y x=true) (hl:∀x y,a.toList[a.size-1]?=some x→y∈b.toList→L y x=true)
  (q:∀r g',Inc L r.toList→r.toList.Perm (a.toList++b.toList)→Q r (SortSt.mk' k0 a0 p g' none)):
  wpS (model prog w) A E s (thi a b) Q (SortSt.mk' k0 a0 p g none):=by
 have la:a.toList.length=a.size:=Array.length_toList
 have lb:b.toList.length=b.size:=Array.length_toList
 have ea:∀i,i<a.size→∃x,a[i]?=some x∧a.toList[i]?=some x∧G x:=fun i hi=>by
  have e:=Array.getElem?_eq_getElem hi
  exact ⟨_,e,by rw [Array.getElem?_toList];exact e,T.gx _ (List.mem_of_getElem? (i:=i) (by rw [Array.getElem?_toList];exact e))⟩
 have eb:∀i,i<b.size→∃x,b[i]?=some x∧b.toList[i]?=some x∧G x:=fun i hi=>by
  have e:=Array.getElem?_eq_getElem hi
  exact ⟨_,e,by rw [Array.getElem?_toList];exact e,T.gy _ (List.mem_of_getElem? (i:=i) (by rw [Array.getElem?_toList];exact e))⟩
 have done0:∀ {out:Array Keyed} {ia ib:Nat},Hrg L a.toList b.toList out.toList.reverse ia ib→(ia=0∨ib=0)→Inc L (a.extract 0 ia++b.extract 0 ib++out.reverse).toList∧(a.extract 0 ia++b.extract 0 ib++out.reverse).toList.Perm (a.toList++b.toList):=fun {out ia ib} M e=>by
  have:=M.fin T.ix T.iy fun z x hz hx=>by
   rcases e with rfl | rfl
   ·rw [List.take_zero] at hx;cases hx
   ·rw [List.take_zero] at hz;cases hz
  rw [Array.toList_append,Array.toList_append,ze4,ze4,Array.toList_reverse]
  exact this
 have firstB:∀ {out:Array Keyed} {ia ib:Nat},Hrg L a.toList b.toList out.toList.reverse ia ib→ib=1→Inc L (b.extract 0 ib++a.extract 0 ia++out.reverse).toList∧(b.extract 0 ib++a.extract 0 ia++out.reverse).toList.Perm (a.toList++b.toList):=fun {out ia ib} M e=>by
  subst e
  obtain ⟨y,_,e2,_⟩:=eb 0 (by omega)
  have:=M.swap.fin T.iy T.ix fun x z hx hz=>by
   rw [zbp e2,List.take_zero,List.nil_append] at hz
   have:z=y:=by simpa using hz
   subst this
   exact h0 z x e2 (List.mem_of_mem_take hx)
  rw [Array.toList_append,Array.toList_append,ze4,ze4,Array.toList_reverse]
  exact ⟨this.1,this.2.trans List.perm_append_comm⟩
 unfold thi PySem.W.Fast.tw11371033205705349026
 rw [←PySem.W.Fast.te12456147031677567982,←PySem.W.Fast.te2398297429280069960,←PySem.W.Fast.te8050958516035322399,←PySem.W.Fast.te494991955013373658]
 dsimp only
 refine wpS_bind (zcI ?_)
 obtain ⟨y0,y1,y2,y3⟩:=ea (a.size-1) (by omega)
 refine wpS_bind (zaq y1 ?_)
 have M0:Hrg L a.toList b.toList (#[y0]:Array Keyed).toList.reverse (a.size-1) b.size:=by
  have e1:=zbq y2
  rw [show a.size-1+1=a.size by omega,List.take_of_length_le (by omega)] at e1
  refine ⟨List.pairwise_singleton _ _,?_,fun o z ho hz=>?_⟩
  ·rw [e1,List.drop_eq_nil_of_le (by omega),List.append_nil]
   exact List.Perm.refl _
  ·have:o=y0:=by simpa using ho
   subst this
   rcases hz with hz | hz
   ·exact (T.ix.cut (a.size-1)).2.2 z o hz (by rw [e1];simp)
   ·exact hl o z y2 (List.mem_of_mem_take hz)
 by_cases c1:a.size-1=0
 ·rw [if_pos (beq_iff_eq.mpr c1)]
  have:=done0 M0 (.inl c1)
  exact wpS_pure (q _ _ this.1 this.2)
 rw [if_neg (fun z=>c1 (beq_iff_eq.mp z))]
 by_cases c2:b.size=1
 ·rw [if_pos (beq_iff_eq.mpr c2)]
  have:=firstB M0 c2
  exact wpS_pure (q _ _ this.1 this.2)
 rw [if_neg (fun z=>c2 (beq_iff_eq.mp z))]
 refine wpS_bind (wpS_get (wpS_bind (wpS_mono (wpS_forRange (fun i c st=>∃g',st=SortSt.mk' k0 a0 p g' none∧c.1=none∧Hrg L a.toList b.toList c.2.2.2.1.toList.reverse c.2.1 c.2.2.1∧0<c.2.1∧1<c.2.2.1∧c.2.1<a.size∧c.2.2.1≤b.size∧i+1+c.2.1+c.2.2.1≤a.size+b.size)
  (Q:=fun c st=>∃g' r,st=SortSt.mk' k0 a0 p g' none∧c.1=some r∧Inc L r.toList∧r.toList.Perm (a.toList++b.toList)) ?_ ?_ ?_) ?_)))
 ·rintro i ⟨r,na,nb,out,mg⟩ st _ hi ⟨g',rfl,e1,M,e2,e3,e4,e5,e6⟩
  dsimp only at e1 M e2 e3 e4 e5 e6 ⊢
  subst e1
  refine wpS_bind (wpS_mono (wpS_forRange (fun j c st=>st=SortSt.mk' k0 a0 p g' none∧c.1=none∧Hrg L a.toList b.toList c.2.2.2.1.toList.reverse c.2.1 c.2.2.1∧0<c.2.1∧1<c.2.2.1∧c.2.1<a.size∧c.2.2.1≤b.size∧i+1+c.2.1+c.2.2.1≤a.size+b.size)
   (Q:=fun c st=>st=SortSt.mk' k0 a0 p g' none∧((∃r,c.1=some r∧Inc L r.toList∧r.toList.Perm (a.toList++b.toList))∨(c.1=none∧Hrg L a.toList b.toList c.2.2.2.1.toList.reverse c.2.1 c.2.2.1∧0<c.2.1∧1<c.2.2.1∧c.2.1<a.size∧c.2.2.1≤b.size∧i+1+c.2.1+c.2.2.1≤a.size+b.size))) ?_ ?_ ?_) ?_)
  ·rintro j ⟨r,na,nb,out,ac,bc⟩ st _ hj ⟨rfl,e1,M,e2,e3,e4,e5,e6⟩
   dsimp only at e1 M e2 e3 e4 e5 e6 ⊢
   subst e1
   obtain ⟨ia,rfl⟩:∃ia,na=ia+1:=⟨na-1,by omega⟩
   obtain ⟨ib,rfl⟩:∃ib,nb=ib+1:=⟨nb-1,by omega⟩
   rw [Nat.add_sub_cancel,Nat.add_sub_cancel]
   obtain ⟨y,yb1,yb2,gy⟩:=eb ib (by omega)
   obtain ⟨x,xa1,xa2,gx⟩:=ea ia (by omega)
   refine wpS_bind (zaq yb1 (wpS_bind (zaq xa1 (wpS_bind (zha O gy gx rfl ?_)))))
   dsimp only
   cases c:L y x with
   | true=>
     rw [if_pos rfl]
     refine wpS_bind (zaq xa1 ?_)
     have M1:Hrg L a.toList b.toList (out.push x).toList.reverse ia (ib+1):=by
      have:=M.a T.ix ia (by omega) (T.swap.last yb2 xa2 c)
      rw [zbq xa2] at this
      rw [zb3]
      exact this
     by_cases c3:ia=0
     ·rw [if_pos (beq_iff_eq.mpr c3)]
      exact wpS_pure ⟨rfl,.inl ⟨_,rfl,done0 M1 (.inl c3)⟩⟩
     ·rw [if_neg (fun z=>c3 (beq_iff_eq.mp z))]
      split
      ·exact wpS_pure ⟨rfl,.inr ⟨rfl,M1,by show 0<ia;omega,e3,by show ia<a.size;omega,e5,by show i+1+ia+(ib+1)≤_;omega⟩⟩
      ·exact wpS_pure ⟨rfl,rfl,M1,by show 0<ia;omega,e3,by show ia<a.size;omega,e5,by show i+1+ia+(ib+1)≤_;omega⟩
   | false=>
     rw [if_neg (by decide)]
     refine wpS_bind (zaq yb1 ?_)
     have c':L x y=true:=by
      rcases T.tot x y (List.mem_of_getElem? xa2) (List.mem_of_getElem? yb2) with h | h
      ·exact h
      ·rw [h] at c;cases c
     have M1:Hrg L a.toList b.toList (out.push y).toList.reverse (ia+1) ib:=by
      have:=M.b T.iy ib (by omega) (T.last xa2 yb2 c')
      rw [zbq yb2] at this
      rw [zb3]
      exact this
     by_cases c3:ib=1
     ·rw [if_pos (beq_iff_eq.mpr c3)]
      exact wpS_pure ⟨rfl,.inl ⟨_,rfl,firstB M1 c3⟩⟩
     ·rw [if_neg (fun z=>c3 (beq_iff_eq.mp z))]
      split
      ·exact wpS_pure ⟨rfl,.inr ⟨rfl,M1,e2,by show 1<ib;omega,e4,by show ib≤b.size;omega,by show i+1+(ia+1)+ib≤_;omega⟩⟩
      ·exact wpS_pure ⟨rfl,rfl,M1,e2,by show 1<ib;omega,e4,by show ib≤b.size;omega,by show i+1+(ia+1)+ib≤_;omega⟩
  ·rintro c st ⟨e0,e1,M,e2⟩
   exact ⟨e0,.inr ⟨e1,M,e2⟩⟩
  ·exact ⟨rfl,rfl,M,e2,e3,e4,e5,e6⟩
  ·rintro ⟨r1,na1,nb1,out1,ac1,bc1⟩ st ⟨rfl,h⟩
   dsimp only at h ⊢
   rcases h with ⟨r,e,hr⟩ | ⟨e,M,e2,e3,e4,e5,e6⟩
   ·subst e
    exact wpS_pure ⟨g',r,rfl,rfl,hr⟩
   subst e
   dsimp only
   refine wpS_bind (zcI ?_)
   refine wpS_bind (wpS_mono (wpS_forRange (fun j c st=>∃g',st=SortSt.mk' k0 a0 p g' none∧c.1=none∧Hrg L a.toList b.toList c.2.2.2.1.toList.reverse c.2.1 c.2.2.1∧0<c.2.1∧1<c.2.2.1∧c.2.1<a.size∧c.2.2.1≤b.size∧i+1+j+c.2.1+c.2.2.1≤a.size+b.size)
    (Q:=fun c st=>∃g',st=SortSt.mk' k0 a0 p g' none∧((∃r,c.1=some r∧Inc L r.toList∧r.toList.Perm (a.toList++b.toList))∨(c.1=none∧Hrg L a.toList b.toList c.2.2.2.1.toList.reverse c.2.1 c.2.2.1∧0<c.2.1∧1<c.2.2.1∧c.2.1<a.size∧c.2.2.1≤b.size∧i+2+c.2.1+c.2.2.1≤a.size+b.size))) ?_ ?_ ?_) ?_)
   ·rintro j ⟨r,na,nb,out,mg2,ac,bc⟩ st _ hj ⟨g2,rfl,e1,M,e2,e3,e4,e5,e6⟩
    dsimp only at e1 M e2 e3 e4 e5 e6 ⊢
    subst e1
    obtain ⟨ib,rfl⟩:∃ib,nb=ib+1:=⟨nb-1,by omega⟩
    rw [Nat.add_sub_cancel]
    obtain ⟨y,yb1,yb2,gy⟩:=eb ib (by omega)
    have gl:∀x,x∈a.toList.take na→G x:=fun x hx=>T.gx x (List.mem_of_mem_take hx)
    obtain ⟨k,kl,k1,k2⟩:=zdy (l:=a.toList.take na) (y:=y) gl gy (T.ix.cut na).1 (fun x hx=>T.tot x y (List.mem_of_mem_take hx) (List.mem_of_getElem? yb2)) O.tr
    have lk:(a.toList.take na).length=na:=by rw [List.length_take];omega
    have Ma:=M.a T.ix k (by omega) (T.above yb2 k2)
    rw [List.take_take,Nat.min_eq_left (by omega)] at k1
    by_cases cg:mg2 > 1
    all_goals
     first | rw [if_pos cg] | rw [if_neg cg]
     refine wpS_bind (ze2 (wpS_bind (zaq yb1 ?_)))
     refine wpS_bind ((galL O (l:=a.toList.take na) (by rw [List.drop_zero]) lk gl gy (by omega) (by omega) (by rw [List.take_take,Nat.min_eq_left (by omega)];exact k1) k2 rfl ?_).2)
     dsimp only
     by_cases ck:na-k > 0
     ·rw [if_pos ck]
      have M':Hrg L a.toList b.toList (out++(a.extract k na).reverse).toList.reverse k (ib+1):=by rw [zgs,zfQ];exact Ma
      by_cases c3:k=0
      ·rw [if_pos (beq_iff_eq.mpr c3)]
       exact wpS_pure ⟨_,rfl,.inl ⟨_,rfl,done0 M' (.inl c3)⟩⟩
      rw [if_neg (fun z=>c3 (beq_iff_eq.mp z))]
      have i':0<k:=by omega
      have u':k<a.size:=by omega
      have s':i+1+j+k+(ib+1)≤a.size+b.size:=by omega
      generalize na-k=dk
      clear Ma c3 lk gl kl k2 M e2 e4 ck
      generalize out++(a.extract k na).reverse=out' at M' ⊢
      generalize k=ia' at k1 M' i' s' u' ⊢
      refine wpS_bind (zaq yb1 ?_)
      have Mb:Hrg L a.toList b.toList (out'.push y).toList.reverse ia' ib:=by
       have:=M'.b T.iy ib (by omega) fun z x hz hx=>by
        rw [zbq yb2] at hz
        have:z=y:=by simpa using hz
        subst this
        exact k1 x hx
       rw [zbq yb2] at this
       rw [zb3]
       exact this
      by_cases c4:ib=1
      ·rw [if_pos (beq_iff_eq.mpr c4)]
       exact wpS_pure ⟨_,rfl,.inl ⟨_,rfl,firstB Mb c4⟩⟩
      rw [if_neg (fun z=>c4 (beq_iff_eq.mp z))]
      obtain ⟨ia2,rfl⟩:∃ia2,ia'=ia2+1:=⟨ia'-1,by omega⟩
      rw [Nat.add_sub_cancel]
      obtain ⟨x,xa1,xa2,gx⟩:=ea ia2 (by omega)
      refine wpS_bind (zaq xa1 ?_)
      have gl:∀z,z∈b.toList.take ib→G z:=fun z hz=>T.gy z (List.mem_of_mem_take hz)
      have lk:(b.toList.take ib).length=ib:=by rw [List.length_take];omega
      obtain ⟨k',kl',k1',k2'⟩:=zdy (l:=b.toList.take ib) (y:=x) gl gx (T.iy.cut ib).1 (fun z hz=>(T.tot x z (List.mem_of_getElem? xa2) (List.mem_of_mem_take hz)).symm) O.tr
      refine wpS_bind ((galL O (l:=b.toList.take ib) (by rw [List.drop_zero]) lk gl gx (by omega) (by omega) k1' k2' rfl ?_).1)
      dsimp only
      have Mc:=Mb.b T.iy k' (by omega) (T.swap.above xa2 k2')
      rw [List.take_take,Nat.min_eq_left (by omega)] at k1'
      by_cases ck':ib-k' > 0
      ·rw [if_pos ck']
       have M2:Hrg L a.toList b.toList (out'.push y++(b.extract k' ib).reverse).toList.reverse (ia2+1) k':=by rw [zgs,zfQ];exact Mc
       by_cases c5:k'=1
       ·rw [if_pos (beq_iff_eq.mpr c5)]
        exact wpS_pure ⟨_,rfl,.inl ⟨_,rfl,firstB M2 c5⟩⟩
       rw [if_neg (fun z=>c5 (beq_iff_eq.mp z))]
       by_cases c7:k'=0
       ·rw [if_pos (beq_iff_eq.mpr c7)]
        exact wpS_pure ⟨_,rfl,.inl ⟨_,rfl,done0 M2 (.inr c7)⟩⟩
       rw [if_neg (fun z=>c7 (beq_iff_eq.mp z))]
       have j':1<k':=by omega
       have v':k'≤b.size:=by omega
       have t':i+1+j+1+(ia2+1)+k'≤a.size+b.size:=by omega
       generalize ib-k'=dk2
       clear Mc c5 c7 lk gl kl' k2' ck' Mb M' s' c4 yb1 yb2 e3 e5 k1
       generalize out'.push y++(b.extract k' ib).reverse=out2 at M2 ⊢
       generalize k'=ib2 at k1' M2 j' t' v' ⊢
       refine wpS_bind (zaq xa1 ?_)
       have Md:Hrg L a.toList b.toList (out2.push x).toList.reverse ia2 ib2:=by
        have:=M2.a T.ix ia2 (by omega) fun z v hz hv=>by
         rw [zbq xa2] at hz
         have:z=x:=by simpa using hz
         subst this
         exact k1' v hv
        rw [zbq xa2] at this
        rw [zb3]
        exact this
       by_cases c6:ia2=0
       ·rw [if_pos (beq_iff_eq.mpr c6)]
        exact wpS_pure ⟨_,rfl,.inl ⟨_,rfl,done0 Md (.inl c6)⟩⟩
       rw [if_neg (fun z=>c6 (beq_iff_eq.mp z))]
       split
       ·exact wpS_pure ⟨_,rfl,.inr ⟨rfl,Md,by show 0<ia2;omega,j',by show ia2<a.size;omega,v',by show i+2+ia2+ib2≤_;omega⟩⟩
       ·exact wpS_pure ⟨_,rfl,rfl,Md,by show 0<ia2;omega,j',by show ia2<a.size;omega,v',by show i+1+(j+1)+ia2+ib2≤_;omega⟩
      ·rw [if_neg ck']
       have k0':k'=ib:=by omega
       subst k0'
       have M2:=Mb
       have j':1<k':=by omega
       have v':k'≤b.size:=by omega
       have t':i+1+j+1+(ia2+1)+k'≤a.size+b.size:=by omega
       generalize k'-k'=dk2
       clear Mc lk gl kl' k2' ck' Mb M' s' c4 yb1 yb2 e3 e5 k1
       generalize out'.push y=out2 at M2 ⊢
       generalize k'=ib2 at k1' M2 j' t' v' ⊢
       refine wpS_bind (zaq xa1 ?_)
       have Md:Hrg L a.toList b.toList (out2.push x).toList.reverse ia2 ib2:=by
        have:=M2.a T.ix ia2 (by omega) fun z v hz hv=>by
         rw [zbq xa2] at hz
         have:z=x:=by simpa using hz
         subst this
         exact k1' v hv
        rw [zbq xa2] at this
        rw [zb3]
        exact this
       by_cases c6:ia2=0
       ·rw [if_pos (beq_iff_eq.mpr c6)]
        exact wpS_pure ⟨_,rfl,.inl ⟨_,rfl,done0 Md (.inl c6)⟩⟩
       rw [if_neg (fun z=>c6 (beq_iff_eq.mp z))]
       split
       ·exact wpS_pure ⟨_,rfl,.inr ⟨rfl,Md,by show 0<ia2;omega,j',by show ia2<a.size;omega,v',by show i+2+ia2+ib2≤_;omega⟩⟩
       ·exact wpS_pure ⟨_,rfl,rfl,Md,by show 0<ia2;omega,j',by show ia2<a.size;omega,v',by show i+1+(j+1)+ia2+ib2≤_;omega⟩
     ·rw [if_neg ck]
      have k0':k=na:=by omega
      subst k0'
      have M':=M
      have i':=e2
      have u':=e4
      have s':=e6
      generalize k-k=dk
      clear Ma lk gl kl k2 M e2 e4 ck e6
      generalize out=out' at M' ⊢
      generalize k=ia' at k1 M' i' s' u' ⊢
      refine wpS_bind (zaq yb1 ?_)
      have Mb:Hrg L a.toList b.toList (out'.push y).toList.reverse ia' ib:=by
       have:=M'.b T.iy ib (by omega) fun z x hz hx=>by
        rw [zbq yb2] at hz
        have:z=y:=by simpa using hz
        subst this
        exact k1 x hx
       rw [zbq yb2] at this
       rw [zb3]
       exact this
      by_cases c4:ib=1
      ·rw [if_pos (beq_iff_eq.mpr c4)]
       exact wpS_pure ⟨_,rfl,.inl ⟨_,rfl,firstB Mb c4⟩⟩
      rw [if_neg (fun z=>c4 (beq_iff_eq.mp z))]
      obtain ⟨ia2,rfl⟩:∃ia2,ia'=ia2+1:=⟨ia'-1,by omega⟩
      rw [Nat.add_sub_cancel]
      obtain ⟨x,xa1,xa2,gx⟩:=ea ia2 (by omega)
      refine wpS_bind (zaq xa1 ?_)
      have gl:∀z,z∈b.toList.take ib→G z:=fun z hz=>T.gy z (List.mem_of_mem_take hz)
      have lk:(b.toList.take ib).length=ib:=by rw [List.length_take];omega
      obtain ⟨k',kl',k1',k2'⟩:=zdy (l:=b.toList.take ib) (y:=x) gl gx (T.iy.cut ib).1 (fun z hz=>(T.tot x z (List.mem_of_getElem? xa2) (List.mem_of_mem_take hz)).symm) O.tr
      refine wpS_bind ((galL O (l:=b.toList.take ib) (by rw [List.drop_zero]) lk gl gx (by omega) (by omega) k1' k2' rfl ?_).1)
      dsimp only
      have Mc:=Mb.b T.iy k' (by omega) (T.swap.above xa2 k2')
      rw [List.take_take,Nat.min_eq_left (by omega)] at k1'
      by_cases ck':ib-k' > 0
      ·rw [if_pos ck']
       have M2:Hrg L a.toList b.toList (out'.push y++(b.extract k' ib).reverse).toList.reverse (ia2+1) k':=by rw [zgs,zfQ];exact Mc
       by_cases c5:k'=1
       ·rw [if_pos (beq_iff_eq.mpr c5)]
        exact wpS_pure ⟨_,rfl,.inl ⟨_,rfl,firstB M2 c5⟩⟩
       rw [if_neg (fun z=>c5 (beq_iff_eq.mp z))]
       by_cases c7:k'=0
       ·rw [if_pos (beq_iff_eq.mpr c7)]
        exact wpS_pure ⟨_,rfl,.inl ⟨_,rfl,done0 M2 (.inr c7)⟩⟩
       rw [if_neg (fun z=>c7 (beq_iff_eq.mp z))]
       have j':1<k':=by omega
       have v':k'≤b.size:=by omega
       have t':i+1+j+1+(ia2+1)+k'≤a.size+b.size:=by omega
       generalize ib-k'=dk2
       clear Mc c5 c7 lk gl kl' k2' ck' Mb M' s' c4 yb1 yb2 e3 e5 k1
       generalize out'.push y++(b.extract k' ib).reverse=out2 at M2 ⊢
       generalize k'=ib2 at k1' M2 j' t' v' ⊢
       refine wpS_bind (zaq xa1 ?_)
       have Md:Hrg L a.toList b.toList (out2.push x).toList.reverse ia2 ib2:=by
        have:=M2.a T.ix ia2 (by omega) fun z v hz hv=>by
         rw [zbq xa2] at hz
         have:z=x:=by simpa using hz
         subst this
         exact k1' v hv
        rw [zbq xa2] at this
        rw [zb3]
        exact this
       by_cases c6:ia2=0
       ·rw [if_pos (beq_iff_eq.mpr c6)]
        exact wpS_pure ⟨_,rfl,.inl ⟨_,rfl,done0 Md (.inl c6)⟩⟩
       rw [if_neg (fun z=>c6 (beq_iff_eq.mp z))]
       split
       ·exact wpS_pure ⟨_,rfl,.inr ⟨rfl,Md,by show 0<ia2;omega,j',by show ia2<a.size;omega,v',by show i+2+ia2+ib2≤_;omega⟩⟩
       ·exact wpS_pure ⟨_,rfl,rfl,Md,by show 0<ia2;omega,j',by show ia2<a.size;omega,v',by show i+1+(j+1)+ia2+ib2≤_;omega⟩
      ·rw [if_neg ck']
       have k0':k'=ib:=by omega
       subst k0'
       have M2:=Mb
       have j':1<k':=by omega
       have v':k'≤b.size:=by omega
       have t':i+1+j+1+(ia2+1)+k'≤a.size+b.size:=by omega
       generalize k'-k'=dk2
       clear Mc lk gl kl' k2' ck' Mb M' s' c4 yb1 yb2 e3 e5 k1
       generalize out'.push y=out2 at M2 ⊢
       generalize k'=ib2 at k1' M2 j' t' v' ⊢
       refine wpS_bind (zaq xa1 ?_)
       have Md:Hrg L a.toList b.toList (out2.push x).toList.reverse ia2 ib2:=by
        have:=M2.a T.ix ia2 (by omega) fun z v hz hv=>by
         rw [zbq xa2] at hz
         have:z=x:=by simpa using hz
         subst this
         exact k1' v hv
        rw [zbq xa2] at this
        rw [zb3]
        exact this
       by_cases c6:ia2=0
       ·rw [if_pos (beq_iff_eq.mpr c6)]
        exact wpS_pure ⟨_,rfl,.inl ⟨_,rfl,done0 Md (.inl c6)⟩⟩
       rw [if_neg (fun z=>c6 (beq_iff_eq.mp z))]
       split
       ·exact wpS_pure ⟨_,rfl,.inr ⟨rfl,Md,by show 0<ia2;omega,j',by show ia2<a.size;omega,v',by show i+2+ia2+ib2≤_;omega⟩⟩
       ·exact wpS_pure ⟨_,rfl,rfl,Md,by show 0<ia2;omega,j',by show ia2<a.size;omega,v',by show i+1+(j+1)+ia2+ib2≤_;omega⟩
   ·rintro c st ⟨g2,e0,e1,M,e2,e3,e4,e5,e6⟩
    exact ⟨g2,e0,.inr ⟨e1,M,e2,e3,e4,e5,by omega⟩⟩
   ·exact ⟨g',rfl,rfl,M,e2,e3,e4,e5,by show i+1+0+_+_≤_;exact e6⟩
   ·rintro ⟨r2,na2,nb2,out2,mg2,ac2,bc2⟩ st ⟨g2,rfl,h⟩
    dsimp only at h ⊢
    rcases h with ⟨r,e,hr⟩ | ⟨e,M,e2,e3,e4,e5,e6⟩
    ·subst e
     exact wpS_pure ⟨g2,r,rfl,rfl,hr⟩
    ·subst e
     dsimp only
     exact wpS_bind (ze2 (wpS_pure ⟨_,rfl,rfl,M,e2,e3,e4,e5,e6⟩))
 ·rintro ⟨r,na,nb,out,mg⟩ st ⟨g',rfl,e1,M,e2,e3,e4,e5,e6⟩
  dsimp only at e1 M e2 e3 e4 e5 e6 ⊢
  omega
 ·exact ⟨_,rfl,rfl,M0,by show 0<a.size-1;omega,by show 1<b.size;omega,by show a.size-1<a.size;omega,Nat.le_refl _,by show 0+1+(a.size-1)+b.size≤_;omega⟩
 ·rintro ⟨r,na,nb,out,mg⟩ st ⟨g',r',rfl,e,hr⟩
  dsimp only at e ⊢
  subst e
  exact wpS_pure (q _ _ hr.1 hr.2)
end
end L2
namespace L2
open PySem PySem.Spec PyProof.Rows PySem.W
section
variable {prog:Program} {w:World} {A:Around} {E:Value→Shared→Prop} {s:Shared} {k0:SortKind} {G:Keyed→Prop} {L:Keyed→Keyed→Bool}
def Rns (L:Keyed→Keyed→Bool) (l:List Keyed):Nat→List (Nat × Nat × Nat)→Nat→Prop
 | a,[],hi=>a=hi
 | a,r::p,hi=>r.1=a∧1≤r.2.1∧Inc L ((l.drop a).take r.2.1)∧Rns L l (a+r.2.1) p hi
theorem Rns.le {l:List Keyed}:∀ {p:List (Nat × Nat × Nat)} {a hi:Nat},Rns L l a p hi→a+p.length≤hi
 | [],a,hi,h=>by cases h;exact Nat.le_refl _
 | r::p,a,hi,⟨_,h1,_,h⟩=>by
   have:=Rns.le h
   rw [List.length_cons]
   omega
theorem Rns.app {l:List Keyed}:∀ {p q:List (Nat × Nat × Nat)} {a hi:Nat},Rns L l a (p++q) hi↔∃m,Rns L l a p m∧Rns L l m q hi
 | [],q,a,hi=>⟨fun h=>⟨a,rfl,h⟩,fun ⟨m,e,h⟩=>by cases e;exact h⟩
 | r::p,q,a,hi=>⟨fun ⟨h1,h2,h3,h4⟩=>let ⟨m,e1,e2⟩:=Rns.app.mp h4;⟨m,⟨h1,h2,h3,e1⟩,e2⟩,fun ⟨m,⟨h1,h2,h3,h4⟩,e2⟩=>⟨h1,h2,h3,Rns.app.mpr ⟨m,h4,e2⟩⟩⟩
theorem Rns.pre {l l':List Keyed} {n:Nat} (e:l.take n=l'.take n):∀ {p:List (Nat × Nat × Nat)} {a hi:Nat},hi≤n→Rns L l a p hi→Rns L l' a p hi
 | [],a,hi,_,h=>h
 | r::p,a,hi,hn,⟨h1,h2,h3,h4⟩=>by
   refine ⟨h1,h2,?_,Rns.pre e hn h4⟩
   have:=h4.le
   have cut:∀l:List Keyed,(l.drop a).take r.2.1=((l.take n).drop a).take r.2.1:=fun l=>by
    rw [List.drop_take,List.take_take,Nat.min_eq_left (by omega)]
   rw [cut,←e,←cut]
   exact h3
theorem Rns.post {l l':List Keyed} {n:Nat} (e:l.drop n=l'.drop n):∀ {p:List (Nat × Nat × Nat)} {a hi:Nat},n≤a→Rns L l a p hi→Rns L l' a p hi
 | [],a,hi,_,h=>h
 | r::p,a,hi,hn,⟨h1,h2,h3,h4⟩=>by
   refine ⟨h1,h2,?_,Rns.post e (by omega) h4⟩
   have cut:∀l:List Keyed,l.drop a=(l.drop n).drop (a-n):=fun l=>by
    rw [List.drop_drop,show n+(a-n)=a by omega]
   rw [cut,←e,←cut]
   exact h3
structure Whl (G:Keyed→Prop) (L:Keyed→Keyed→Bool) (l0 l:List Keyed):Prop where
 g:∀x,x∈l→G x
 d:l.Pairwise fun x y=>L x y=true∨L y x=true
 pm:l.Perm l0
theorem Whl.perm {l0 l l':List Keyed} (h:Whl G L l0 l) (p:l'.Perm l):Whl G L l0 l':=
 ⟨fun x hx=>h.g x (p.mem_iff.mp hx),(p.pairwise_iff fun h=>h.symm).mpr h.d,p.trans h.pm⟩
theorem ziY {sa:Nat}:∀(l:List Keyed) (n:Nat) (a:Array Keyed),sa+n+l.length≤a.size→(PySem.W.R.foldlR (fun (a:Array Keyed) (x:Keyed × Nat)=>a.setIfInBounds (sa+x.2) x.1) a (l.zipIdx n)).toList=a.toList.take (sa+n)++l++a.toList.drop (sa+n+l.length)
 | [],n,a,_=>by
   rw [List.zipIdx_nil,List.append_nil]
   exact (List.take_append_drop _ _).symm
 | x::l,n,a,h=>by
   rw [List.length_cons] at h
   rw [List.zipIdx_cons]
   show (PySem.W.R.foldlR _ (a.setIfInBounds (sa+n) x) (l.zipIdx (n+1))).toList=_
   have ih:=ziY (sa:=sa) l (n+1) (a.setIfInBounds (sa+n) x) (by rw [Array.size_setIfInBounds];omega)
   rw [ih,Array.toList_setIfInBounds]
   have ll:sa+n<a.toList.length:=by rw [Array.length_toList];omega
   rw [List.drop_set_of_lt (by omega),show sa+(n+1)=sa+n+1 by omega,List.take_set,List.take_add_one,List.length_cons]
   rw [show sa+n+1+l.length=sa+n+(l.length+1) by omega]
   have e:(List.take (sa+n) a.toList++a.toList[sa+n]?.toList).set (sa+n) x=List.take (sa+n) a.toList++[x]:=by
    rw [List.getElem?_eq_getElem ll,List.set_append_right _ _ (by rw [List.length_take];omega)]
    have:sa+n-(List.take (sa+n) a.toList).length=0:=by rw [List.length_take];omega
    rw [this]
    rfl
   rw [e,List.append_assoc,List.append_assoc,List.append_assoc]
   rfl
end
end L2
namespace L2
open PySem PySem.Spec PyProof.Rows PySem.W
section
variable {prog:Program} {w:World} {A:Around} {E:Value→Shared→Prop} {s:Shared} {k0:SortKind} {G:Keyed→Prop} {L:Keyed→Keyed→Bool}
theorem zlD {σ:Type} {st st' : σ} {Q:PUnit → σ→Prop} (q:Q PUnit.unit st'):wpS (model prog w) A E s (set st':StateT σ Sem PUnit) Q st:=wpAny_pure ⟨rfl,q⟩
theorem znp (O:Odr prog w A E s k0 G L) {a:Array Keyed} {p1 p2:List (Nat × Nat × Nat)} {p:Array (Nat × Nat × Nat)} {g sa na pw sb nb pw':Nat} {l0 pre xs ys post:List Keyed} {Q:Bool→SortSt→Prop} (W:Whl G L l0 a.toList)
  (ep:p.toList=p1++(sa,na,pw)::(sb,nb,pw')::p2) (el:a.toList=pre++(xs++ys)++post) (lp:pre.length=sa) (lx:xs.length=na) (ly:ys.length=nb) (es:sb=sa+na) (n1:1≤na) (n2:1≤nb) (ix:Inc L xs) (iy:Inc L ys)
  (q:∀(a':Array Keyed) (p':Array (Nat × Nat × Nat)) (g':Nat) (zs:List Keyed),p'.toList=p1++(sa,na+nb,pw)::p2→a'.toList=pre++zs++post→Inc L zs→zs.Perm (xs++ys)→Q true (SortSt.mk' k0 a' p' g' none)):
  wpS (model prog w) A E s (tat p1.length) Q (SortSt.mk' k0 a p g none):=by
 unfold tat PySem.W.Fast.tw6096456617080501612
 rw [←PySem.W.Fast.te12456147031677567982,←PySem.W.Fast.te8050958516035322399]
 dsimp only
 refine wpS_bind (wpS_get ?_)
 have e1:p[p1.length]?=some (sa,na,pw):=by
  rw [←Array.getElem?_toList,ep,List.getElem?_append_right (Nat.le_refl _),Nat.sub_self]
  rfl
 have e2:p[p1.length+1]?=some (sb,nb,pw'):=by
  rw [←Array.getElem?_toList,ep,List.getElem?_append_right (by omega),show p1.length+1-p1.length=1 by omega]
  rfl
 show wpS (model prog w) A E s (match (p[p1.length]?,p[p1.length+1]?) with | (some (sa,na,power),some (sb,nb,snd))=>_ | x=>_) Q _
 rw [e1,e2]
 dsimp only
 refine wpS_bind (zlD ?_)
 show wpS _ _ _ _ _ Q (SortSt.mk' k0 a ((p.setIfInBounds p1.length (sa,na+nb,pw)).eraseIdxIfInBounds (p1.length+1)) g none)
 have hpp:((p.setIfInBounds p1.length (sa,na+nb,pw)).eraseIdxIfInBounds (p1.length+1)).toList=p1++(sa,na+nb,pw)::p2:=by
  rw [Array.toList_eraseIdxIfInBounds,Array.toList_setIfInBounds,ep,List.set_append_right _ _ (Nat.le_refl _),Nat.sub_self,List.eraseIdx_append_of_length_le (by omega),show p1.length+1-p1.length=1 by omega]
  rfl
 generalize (p.setIfInBounds p1.length (sa,na+nb,pw)).eraseIdxIfInBounds (p1.length+1)=pp at hpp ⊢
 subst es
 have gx:∀x,x∈xs→G x:=fun x hx=>W.g x (by rw [el];simp [hx])
 have gy:∀x,x∈ys→G x:=fun x hx=>W.g x (by rw [el];simp [hx])
 have tot:∀x y,x∈xs→y∈ys→L x y=true∨L y x=true:=fun x y hx hy=>by
  have d:=W.d
  rw [el,List.pairwise_append,List.pairwise_append,List.pairwise_append] at d
  exact d.1.2.1.2.2 x hx y hy
 have T:Two G L xs ys:=⟨gx,gy,ix,iy,tot,O.tr,O.as⟩
 have dx:(a.toList.drop sa).take na=xs:=by
  rw [el,List.append_assoc,List.drop_append_of_le_length (by omega),List.drop_eq_nil_of_le (by omega),List.nil_append,List.append_assoc,List.take_append_of_le_length (by omega),List.take_of_length_le (by omega)]
 have dy:(a.toList.drop (sa+na)).take nb=ys:=by
  rw [el,show sa+na=pre.length+xs.length by omega,List.append_assoc,List.drop_length_add_append,List.append_assoc,List.drop_left,List.take_append_of_le_length (by omega),List.take_of_length_le (by omega)]
 have ax:∀i,i<na→a[sa+i]?=xs[i]?:=fun i hi=>by
  rw [←dx,List.getElem?_take_of_lt hi,List.getElem?_drop,Array.getElem?_toList]
 have ay:∀i,i<nb→a[sa+na+i]?=ys[i]?:=fun i hi=>by
  rw [←dy,List.getElem?_take_of_lt hi,List.getElem?_drop,Array.getElem?_toList]
 obtain ⟨y0,hy0⟩:∃y,ys[0]?=some y:=⟨_,List.getElem?_eq_getElem (show 0<ys.length by omega)⟩
 obtain ⟨x9,hx9⟩:∃x,xs[na-1]?=some x:=⟨_,List.getElem?_eq_getElem (show na-1<xs.length by omega)⟩
 have gy0:=gy _ (List.mem_of_getElem? hy0)
 have gx9:=gx _ (List.mem_of_getElem? hx9)
 have whole:(∀x y,x∈xs→y∈ys→L x y=true)→Q true (SortSt.mk' k0 a pp g none):=fun h=>by
  refine q a pp g (xs++ys) hpp el ?_ (List.Perm.refl _)
  unfold Inc
  rw [List.pairwise_append]
  exact ⟨ix,iy,fun x hx y hy=>h x y hx hy⟩
 refine wpS_bind (zaq (show a[sa+na]?=some y0 by rw [←hy0,←ay 0 (by omega),Nat.add_zero]) ?_)
 obtain ⟨k,kl,k1,k2⟩:=zdy (l:=xs) (y:=y0) gx gy0 ix (fun x hx=>tot x y0 hx (List.mem_of_getElem? hy0)) O.tr
 refine wpS_bind ((galL O (l:=xs) dx lx gx gy0 (by omega) (by omega) k1 k2 rfl ?_).2)
 dsimp only
 have b1:=T.below (i:=0) (c:=k) hy0 (by rw [List.drop_zero];exact k1)
 rw [List.drop_zero,List.drop_zero] at b1
 by_cases c1:na-k=0
 ·rw [if_pos (beq_iff_eq.mpr c1)]
  refine wpS_pure (whole fun x y hx hy=>b1 x y ?_ hy)
  rw [List.take_of_length_le (by omega)]
  exact hx
 rw [if_neg (fun z=>c1 (beq_iff_eq.mp z))]
 refine wpS_bind (zaq (show a[sa+k+(na-k)-1]?=some x9 by rw [show sa+k+(na-k)-1=sa+(na-1) by omega,ax _ (by omega)];exact hx9) ?_)
 obtain ⟨m,ml,m1,m2⟩:=zdy (l:=ys) (y:=x9) gy gx9 iy (fun x hx=>(tot x9 x (List.mem_of_getElem? hx9) hx).symm) O.tr
 refine wpS_bind ((galL O (l:=ys) dy ly gy gx9 (by omega) (by omega) m1 m2 rfl ?_).1)
 dsimp only
 have b2:∀x y,x∈xs→y∈ys.drop m→L x y=true:=fun x y hx hy=>by
  have h9:=m2 y hy
  obtain ⟨j,hj,ej⟩:=List.getElem_of_mem hx
  have i2:=ix
  unfold Inc at i2
  rw [show xs=xs.take (na-1)++[x9] by rw [←zbp hx9,List.take_of_length_le (by omega)],List.pairwise_append] at i2
  rw [show xs=xs.take (na-1)++[x9] by rw [←zbp hx9,List.take_of_length_le (by omega)]] at hx
  rcases List.mem_append.mp hx with hx | hx
  ·exact O.tr _ _ _ (gx _ (List.mem_of_mem_take hx)) gx9 (gy _ (List.mem_of_mem_drop hy)) (i2.2.2 x hx x9 (by simp)) h9
  ·have:x=x9:=by simpa using hx
   rw [this]
   exact h9
 by_cases c2:m=0
 ·rw [if_pos (beq_iff_eq.mpr c2)]
  subst c2
  rw [List.drop_zero] at b2
  exact wpS_pure (whole b2)
 rw [if_neg (fun z=>c2 (beq_iff_eq.mp z))]
 have tx:(a.extract (sa+k) (sa+na)).toList=xs.drop k:=by
  rw [zfQ,←dx,List.drop_take,List.drop_take,List.drop_drop,show sa+na-(sa+k)=na-k by omega]
 have ty:(a.extract (sa+na) (sa+na+m)).toList=ys.take m:=by
  rw [zfQ,←dy,List.drop_take,List.take_take,Nat.min_eq_left (by omega),show sa+na+m-(sa+na)=m by omega]
 have sx:(a.extract (sa+k) (sa+na)).size=na-k:=by rw [←Array.length_toList,tx,List.length_drop];omega
 have sy:(a.extract (sa+na) (sa+na+m)).size=m:=by rw [←Array.length_toList,ty,List.length_take];omega
 have T2:Two G L (a.extract (sa+k) (sa+na)).toList (a.extract (sa+na) (sa+na+m)).toList:=by
  rw [tx,ty]
  exact ⟨fun x hx=>gx x (List.mem_of_mem_drop hx),fun y hy=>gy y (List.mem_of_mem_take hy),(ix.cut k).2.1,(iy.cut m).1,fun x y hx hy=>tot x y (List.mem_of_mem_drop hx) (List.mem_of_mem_take hy),O.tr,O.as⟩
 have h0:∀y x,(a.extract (sa+na) (sa+na+m)).toList[0]?=some y→x∈(a.extract (sa+k) (sa+na)).toList→L y x=true:=fun y x hy hx=>by
  rw [ty,List.getElem?_take_of_lt (by omega),hy0] at hy
  cases hy
  rw [tx] at hx
  exact k2 x hx
 have hl:∀x y,(a.extract (sa+k) (sa+na)).toList[(a.extract (sa+k) (sa+na)).size-1]?=some x→y∈(a.extract (sa+na) (sa+na+m)).toList→L y x=true:=fun x y hx hy=>by
  rw [sx,tx,List.getElem?_drop,show k+(na-k-1)=na-1 by omega,hx9] at hx
  cases hx
  rw [ty] at hy
  exact m1 y hy
 have fin:∀(r:Array Keyed) (g':Nat),Inc L r.toList→r.toList.Perm ((a.extract (sa+k) (sa+na)).toList++(a.extract (sa+na) (sa+na+m)).toList)→Q true (SortSt.mk' k0 (PySem.W.R.foldlR (fun (a:Array Keyed) (x:Keyed × Nat)=>a.setIfInBounds (sa+k+x.2) x.1) a r.toList.zipIdx) pp g' none):=fun r g' ir pr=>by
  rw [tx,ty] at pr
  have lr:r.toList.length=na-k+m:=by
   rw [pr.length_eq,List.length_append,List.length_drop,List.length_take]
   omega
  have sz:a.size=sa+(na+nb)+post.length:=by rw [←Array.length_toList,el,List.length_append,List.length_append,List.length_append];omega
  have e:=ziY (sa:=sa+k) r.toList 0 a (by omega)
  have mem:∀z,z∈r.toList→z∈xs.drop k∨z∈ys.take m:=fun z hz=>List.mem_append.mp (pr.mem_iff.mp hz)
  refine q _ pp g' (xs.take k++r.toList++ys.drop m) hpp ?_ ?_ ?_
  ·rw [e,Nat.add_zero,el,lr]
   have t1:(pre++(xs++ys)++post).take (sa+k)=pre++xs.take k:=by
    rw [List.append_assoc,←lp,List.take_length_add_append,List.append_assoc,List.take_append_of_le_length (by omega)]
   have t2:(pre++(xs++ys)++post).drop (sa+k+(na-k+m))=ys.drop m++post:=by
    rw [show sa+k+(na-k+m)=pre.length+(xs.length+m) by omega,List.append_assoc,List.drop_length_add_append,List.append_assoc,List.drop_length_add_append,List.drop_append_of_le_length (by omega)]
   rw [t1,t2]
   simp only [List.append_assoc]
  ·unfold Inc
   rw [List.pairwise_append,List.pairwise_append]
   refine ⟨⟨(ix.cut k).1,ir,fun x hx z hz=>?_⟩,(iy.cut m).2.1,fun z hz y hy=>?_⟩
   ·rcases mem z hz with h | h
    ·exact (ix.cut k).2.2 x z hx h
    ·exact b1 x z hx (List.mem_of_mem_take h)
   ·rcases List.mem_append.mp hz with h | h
    ·exact b2 z y (List.mem_of_mem_take h) hy
    ·rcases mem z h with h | h
     ·exact b2 z y (List.mem_of_mem_drop h) hy
     ·exact (iy.cut m).2.2 z y h hy
  ·have f1:=List.take_append_drop k xs
   have f2:=List.take_append_drop m ys
   refine ((pr.append_left _).append_right _).trans (List.Perm.of_eq ?_)
   rw [←List.append_assoc,f1,List.append_assoc,f2]
 by_cases c3:na-k≤m
 ·rw [if_pos c3]
  refine wpS_bind (znn O T2 (by omega) (by omega) h0 hl fun r g' ir pr=>?_)
  exact wpS_bind (wpS_modify (wpS_bind (wpS_get (wpS_pure (fin r g' ir pr)))))
 ·rw [if_neg c3]
  refine wpS_bind (zno O T2 (by omega) (by omega) h0 hl fun r g' ir pr=>?_)
  exact wpS_bind (wpS_modify (wpS_bind (wpS_get (wpS_pure (fin r g' ir pr)))))
end
end L2
namespace L2
open PySem PySem.Spec PyProof.Rows PySem.W
section
variable {prog:Program} {w:World} {A:Around} {E:Value→Shared→Prop} {s:Shared} {k0:SortKind} {G:Keyed→Prop} {L:Keyed→Keyed→Bool}
def Sg (L:Keyed→Keyed→Bool) (a:Array Keyed) (lo n:Nat):Prop:=∀i j x y,i<j→j<n→a[lo+i]?=some x→a[lo+j]?=some y→L x y=true
theorem Sg.inc {a:Array Keyed} {lo n:Nat} (h:Sg L a lo n):Inc L ((a.toList.drop lo).take n):=by
 unfold Inc
 rw [List.pairwise_iff_getElem]
 intro i j hi hj ij
 have e:∀ {t:Nat} (ht:t<((a.toList.drop lo).take n).length),t<n∧a[lo+t]?=some ((a.toList.drop lo).take n)[t]:=fun {t} ht=>by
  have tn:t<n:=by rw [List.length_take] at ht;omega
  have:=List.getElem?_eq_getElem ht
  rw [List.getElem?_take_of_lt tn,List.getElem?_drop,Array.getElem?_toList] at this
  exact ⟨tn,this⟩
 exact h i j _ _ ij (e hj).1 (e hi).2 (e hj).2
theorem Whl.tot {l0:List Keyed} {a:Array Keyed} (W:Whl G L l0 a.toList) {i j:Nat} {x y:Keyed} (ij:i≠j) (hx:a[i]?=some x) (hy:a[j]?=some y):L x y=true∨L y x=true:=by
 have d:=W.d
 rw [List.pairwise_iff_getElem] at d
 rw [←Array.getElem?_toList] at hx hy
 obtain ⟨h1,rfl⟩:=List.getElem?_eq_some_iff.mp hx
 obtain ⟨h2,rfl⟩:=List.getElem?_eq_some_iff.mp hy
 rcases Nat.lt_or_gt_of_ne ij with h | h
 ·exact d i j h1 h2 h
 ·exact (d j i h2 h1 h).symm
theorem Whl.gat {l0:List Keyed} {a:Array Keyed} (W:Whl G L l0 a.toList) {i:Nat} {x:Keyed} (hx:a[i]?=some x):G x:=W.g x (List.mem_of_getElem? (i:=i) (by rw [Array.getElem?_toList];exact hx))
theorem zb9 {a:Array Keyed} {i:Nat} (h:i<a.size):∃x,a[i]?=some x:=⟨_,Array.getElem?_eq_getElem h⟩
theorem Sg.ext {l0:List Keyed} {a:Array Keyed} (O:Odr prog w A E s k0 G L) (W:Whl G L l0 a.toList) {lo n:Nat} {x y:Keyed} (h:Sg L a lo (n+1)) (hx:a[lo+n]?=some x) (hy:a[lo+(n+1)]?=some y) (c:L x y=true):Sg L a lo (n+1+1):=by
 intro i j u v ij jn hu hv
 by_cases z:j<n+1
 ·exact h i j u v ij z hu hv
 ·have:j=n+1:=by omega
  subst this
  rw [hy] at hv
  cases hv
  by_cases y':i=n
  ·subst y'
   rw [hx] at hu
   cases hu
   exact c
  ·exact O.tr _ _ _ (W.gat hu) (W.gat hx) (W.gat hy) (h i n u x (by omega) (by omega) hu hx) c
theorem zdk {l0:List Keyed} (O:Odr prog w A E s k0 G L) {a:Array Keyed} {p:Array (Nat × Nat × Nat)} {g:Nat} (W:Whl G L l0 a.toList) {i j:Nat} {x y:Keyed} {Q:Option Bool→SortSt→Prop} (hx:a[i]?=some x) (hy:a[j]?=some y) (q:Q (some (L x y)) (SortSt.mk' k0 a p g none)):
  wpS (model prog w) A E s (ltAt' i j) Q (SortSt.mk' k0 a p g none):=by
 have el:∀ {i:Nat} {x:Keyed} {Q:Keyed→SortSt→Prop},a[i]?=some x→Q x (SortSt.mk' k0 a p g none)→wpS (model prog w) A E s (elem' a i) Q (SortSt.mk' k0 a p g none):=fun {i x Q} h q=>by
  rw [elem'_eq,h]
  exact wpS_pure q
 rw [ltAt'_eq]
 exact wpS_bind (wpS_get (wpS_bind (el hx (wpS_bind (el hy (O.ask x y _ _ (W.gat hx) (W.gat hy) rfl q))))))
theorem zlE {l0:List Keyed} (O:Odr prog w A E s k0 G L) {a:Array Keyed} {p:Array (Nat × Nat × Nat)} {g lo nrem:Nat} {Q:Option Nat→SortSt→Prop} (W:Whl G L l0 a.toList) (h1:1≤nrem) (hs:lo+nrem≤a.size)
  (q:∀(a':Array Keyed) n,1≤n→n≤nrem→a'.size=a.size→(∀i,i<lo→a'[i]?=a[i]?)→Whl G L l0 a'.toList→Sg L a' lo n→Q (some n) (SortSt.mk' k0 a' p g none)):wpS (model prog w) A E s (countRun' lo nrem) Q (SortSt.mk' k0 a p g none):=by
 rw [countRun'_eq]
 dsimp only
 refine wpS_bind (wpS_mono (wpS_forRange (fun i c st=>st=SortSt.mk' k0 a p g none∧c.1=none∧c.2=i∧Sg L a lo i) (Q:=fun c st=>st=SortSt.mk' k0 a p g none∧c.1=none∧1≤c.2∧c.2≤nrem∧Sg L a lo c.2∧(c.2<nrem→∀x y,a[lo+c.2]?=some x→a[lo+c.2-1]?=some y→L x y=true)) ?_ ?_ ?_) ?_)
 ·rintro i ⟨r,n⟩ st h1' hi ⟨rfl,e1,e2,e3⟩
  dsimp only at e1 e2 e3 ⊢
  subst e1 e2
  obtain ⟨m,rfl⟩:∃m,n=m+1:=⟨n-1,by omega⟩
  obtain ⟨x,hx⟩:=zb9 (a:=a) (i:=lo+(m+1)) (by omega)
  obtain ⟨y,hy⟩:=zb9 (a:=a) (i:=lo+m) (by omega)
  refine wpS_bind (zdk O W hx (show a[lo+(m+1)-1]?=some y by rw [show lo+(m+1)-1=lo+m by omega];exact hy) ?_)
  dsimp only
  cases c:L x y with
  | true=>
    rw [if_pos rfl]
    refine wpS_pure ⟨rfl,rfl,h1',by show m+1≤nrem;omega,e3,fun _ x' y' hx' hy'=>?_⟩
    dsimp only at hx' hy'
    rw [hx] at hx'
    rw [show lo+(m+1)-1=lo+m by omega,hy] at hy'
    cases hx'
    cases hy'
    exact c
  | false=>
    rw [if_neg (by decide)]
    refine wpS_pure ⟨rfl,rfl,rfl,e3.ext O W hy hx ?_⟩
    rcases W.tot (by omega) hy hx with h | h
    ·exact h
    ·rw [h] at c;cases c
 ·rintro ⟨r,n⟩ st ⟨e0,e1,e2,e3⟩
  dsimp only at e1 e2 e3 ⊢
  subst e2
  exact ⟨e0,e1,by omega,by omega,e3,fun h=>by omega⟩
 ·exact ⟨rfl,rfl,rfl,fun i j x y ij jn=>by omega⟩
 ·rintro ⟨r,n⟩ st ⟨rfl,e1,e2,e3,e4,e5⟩
  dsimp only at e1 e2 e3 e4 e5 ⊢
  subst e1
  dsimp only
  by_cases c1:n=nrem
  ·rw [if_pos (beq_iff_eq.mpr c1)]
   exact wpS_pure (q a n e2 e3 rfl (fun _ _=>rfl) W e4)
  rw [if_neg (fun z=>c1 (beq_iff_eq.mp z))]
  by_cases c2:n > 1
  ·rw [if_pos c2]
   obtain ⟨x,hx⟩:=zb9 (a:=a) (i:=lo) (by omega)
   obtain ⟨y,hy⟩:=zb9 (a:=a) (i:=lo+(n-1)) (by omega)
   refine wpS_bind (zdk O W hx (show a[lo+n-1]?=some y by rw [show lo+n-1=lo+(n-1) by omega];exact hy) ?_)
   dsimp only
   rw [if_pos (e4 0 (n-1) x y (by omega) (by omega) hx hy)]
   exact wpS_pure (q a n e2 e3 rfl (fun _ _=>rfl) W e4)
  rw [if_neg c2]
  have n1:n=1:=by omega
  subst n1
  refine wpS_bind (zcI ?_)
  have Dn:Nat→Prop:=fun m=>∀i j x y,i<j→j<m→a[lo+i]?=some x→a[lo+j]?=some y→L y x=true
  refine wpS_bind (wpS_mono (wpS_forRange (fun i c st=>st=SortSt.mk' k0 a p g none∧c.1=none∧c.2.1=i∧c.2.2=0∧∀t u x y,t<u→u<i→a[lo+t]?=some x→a[lo+u]?=some y→L y x=true) (Q:=fun c st=>st=SortSt.mk' k0 a p g none∧c.1=none∧2≤c.2.1∧c.2.1≤nrem∧c.2.2=0∧∀t u x y,t<u→u<c.2.1→a[lo+t]?=some x→a[lo+u]?=some y→L y x=true) ?_ ?_ ?_) ?_)
  ·rintro i ⟨r,n,neq⟩ st h1' hi ⟨rfl,e1,e2,e3,e4⟩
   dsimp only at e1 e2 e3 e4 ⊢
   subst e1 e2 e3
   obtain ⟨m,rfl⟩:∃m,n=m+1:=⟨n-1,by omega⟩
   obtain ⟨x,hx⟩:=zb9 (a:=a) (i:=lo+(m+1)) (by omega)
   obtain ⟨y,hy⟩:=zb9 (a:=a) (i:=lo+m) (by omega)
   have hy':a[lo+(m+1)-1]?=some y:=by rw [show lo+(m+1)-1=lo+m by omega];exact hy
   refine wpS_bind (zdk O W hx hy' ?_)
   dsimp only
   cases c:L x y with
   | true=>
     rw [if_pos rfl,if_neg (by omega)]
     refine wpS_pure ⟨rfl,rfl,rfl,rfl,fun t u v z tu hu hv hz=>?_⟩
     by_cases k:u<m+1
     ·exact e4 t u v z tu k hv hz
     ·have:u=m+1:=by omega
      subst this
      rw [hx] at hz
      cases hz
      by_cases k':t=m
      ·subst k'
       rw [hy] at hv
       cases hv
       exact c
      ·exact O.tr _ _ _ (W.gat hx) (W.gat hy) (W.gat hv) c (e4 t m v y (by omega) (by omega) hv hy)
   | false=>
     rw [if_neg (by decide)]
     refine wpS_bind (zdk O W hy' hx ?_)
     dsimp only
     have c':L y x=true:=by
      rcases W.tot (by omega) hy hx with h | h
      ·exact h
      ·rw [h] at c;cases c
     rw [if_pos c']
     exact wpS_pure ⟨rfl,rfl,h1',by show m+1≤nrem;omega,rfl,e4⟩
  ·rintro ⟨r,n,neq⟩ st ⟨e0,e1,e2,e3,e4⟩
   dsimp only at e1 e2 e3 e4 ⊢
   subst e2
   exact ⟨e0,e1,by omega,by omega,e3,e4⟩
  ·refine ⟨rfl,rfl,rfl,rfl,fun t u x y tu hu hx hy=>?_⟩
   have t0:t=0:=by omega
   have u1:u=1:=by omega
   subst t0 u1
   exact e5 (by omega) y x hy (by rw [show lo+1-1=lo+0 by omega];exact hx)
  ·rintro ⟨r,n,neq⟩ st ⟨rfl,e1,e2',e3',e4',e5'⟩
   dsimp only at e1 e2' e3' e4' e5' ⊢
   subst e1 e4'
   dsimp only
   rw [if_neg (by omega),reverseSlice'_eq]
   refine wpS_bind (wpS_modify ?_)
   show wpS _ _ _ _ _ _ (SortSt.mk' k0 (mirror a lo (lo+n) ((lo+n-lo) / 2)) p g none)
   have gm:=getElem?_mirror_all (xs:=a) (i:=lo) (j:=lo+n) (by omega)
   have W':Whl G L l0 (mirror a lo (lo+n) ((lo+n-lo) / 2)).toList:=W.perm (Array.perm_iff_toList_perm.mp (mirror_perm a lo (lo+n) _))
   have sz:=mirror_size a lo (lo+n) ((lo+n-lo) / 2)
   generalize mirror a lo (lo+n) ((lo+n-lo) / 2)=a' at gm W' sz ⊢
   have s':Sg L a' lo n:=fun t u x y tu un hx hy=>by
    rw [gm,if_pos ⟨by omega,by omega⟩] at hx hy
    exact e5' (n-1-u) (n-1-t) y x (by omega) (by omega) (by rw [show lo+(n-1-u)=lo+(lo+n)-1-(lo+u) by omega];exact hy) (by rw [show lo+(n-1-t)=lo+(lo+n)-1-(lo+t) by omega];exact hx)
   have pre:∀i,i<lo→a'[i]?=a[i]?:=fun i hi=>by rw [gm,if_neg (by omega)]
   refine wpS_bind (wpS_mono (wpS_forRange (fun i c st=>st=SortSt.mk' k0 a' p g none∧c.1=none∧c.2=i∧Sg L a' lo i) (Q:=fun c st=>st=SortSt.mk' k0 a' p g none∧c.1=none∧1≤c.2∧c.2≤nrem∧Sg L a' lo c.2) ?_ ?_ ?_) ?_)
   ·rintro i ⟨r,n⟩ st h1' hi ⟨rfl,e1,e2,e3⟩
    dsimp only at e1 e2 e3 ⊢
    subst e1 e2
    obtain ⟨m,rfl⟩:∃m,n=m+1:=⟨n-1,by omega⟩
    obtain ⟨x,hx⟩:=zb9 (a:=a') (i:=lo+(m+1)) (by omega)
    obtain ⟨y,hy⟩:=zb9 (a:=a') (i:=lo+m) (by omega)
    refine wpS_bind (zdk O W' hx (show a'[lo+(m+1)-1]?=some y by rw [show lo+(m+1)-1=lo+m by omega];exact hy) ?_)
    dsimp only
    cases c:L x y with
    | true=>
      rw [if_pos rfl]
      exact wpS_pure ⟨rfl,rfl,by show 1≤m+1;omega,by show m+1≤nrem;omega,e3⟩
    | false=>
      rw [if_neg (by decide)]
      refine wpS_pure ⟨rfl,rfl,rfl,e3.ext O W' hy hx ?_⟩
      rcases W'.tot (by omega) hy hx with h | h
      ·exact h
      ·rw [h] at c;cases c
   ·rintro ⟨r,n'⟩ st ⟨e0,e1,e2,e3⟩
    dsimp only at e1 e2 e3 ⊢
    subst e2
    exact ⟨e0,e1,by omega,by omega,e3⟩
   ·exact ⟨rfl,rfl,rfl,s'⟩
   ·rintro ⟨r,n'⟩ st ⟨rfl,e1,e2,e3,e4⟩
    dsimp only at e1 e2 e3 e4 ⊢
    subst e1
    exact wpS_pure (q a' n' e2 e3 sz pre W' e4)
theorem zlF {l0:List Keyed} (O:Odr prog w A E s k0 G L) {a:Array Keyed} {p:Array (Nat × Nat × Nat)} {g lo n ok:Nat} {Q:Bool→SortSt→Prop} (W:Whl G L l0 a.toList) (h1:1≤ok) (ho:ok≤n) (hs:lo+n≤a.size) (h:Sg L a lo ok)
  (q:∀(a':Array Keyed),a'.size=a.size→(∀i,i<lo→a'[i]?=a[i]?)→Whl G L l0 a'.toList→Sg L a' lo n→Q true (SortSt.mk' k0 a' p g none)):wpS (model prog w) A E s (binarySort' lo n ok) Q (SortSt.mk' k0 a p g none):=by
 rw [binarySort'_eq,Nat.max_eq_left h1]
 dsimp only
 refine wpS_bind (wpS_mono (wpS_forRange (fun i c st=>∃a':Array Keyed,st=SortSt.mk' k0 a' p g none∧c.1=none∧a'.size=a.size∧(∀i,i<lo→a'[i]?=a[i]?)∧Whl G L l0 a'.toList∧Sg L a' lo i) (Q:=fun c st=>∃a':Array Keyed,st=SortSt.mk' k0 a' p g none∧c.1=none∧a'.size=a.size∧(∀i,i<lo→a'[i]?=a[i]?)∧Whl G L l0 a'.toList∧Sg L a' lo n) ?_ ?_ ?_) ?_)
 ·rintro k ⟨r,u⟩ st hk1 hk2 ⟨a',rfl,e1,e2,e3,W',e4⟩
  dsimp only at e1 ⊢
  obtain ⟨x,hx⟩:=zb9 (a:=a') (i:=lo+k) (by omega)
  refine wpS_bind (wpS_mono (wpS_forRange (fun i c st=>st=SortSt.mk' k0 a' p g none∧c.1=none∧c.2.1≤c.2.2∧c.2.2≤k∧c.2.2-c.2.1+i≤k∧(∀t y,t<c.2.1→a'[lo+t]?=some y→L y x=true)∧∀t y,c.2.2≤t→t<k→a'[lo+t]?=some y→L x y=true)
   (Q:=fun c st=>st=SortSt.mk' k0 a' p g none∧c.1=none∧c.2.1≤k∧(∀t y,t<c.2.1→a'[lo+t]?=some y→L y x=true)∧∀t y,c.2.1≤t→t<k→a'[lo+t]?=some y→L x y=true) ?_ ?_ ?_) ?_)
  ·rintro i ⟨r,lf,rg⟩ st _ hi ⟨rfl,f1,f2,f3,f4,f5,f6⟩
   dsimp only at f1 f2 f3 f4 f5 f6 ⊢
   subst f1
   by_cases c:lf ≥ rg
   ·rw [if_pos c]
    have:lf=rg:=by omega
    subst this
    exact wpS_pure ⟨rfl,rfl,f3,f5,f6⟩
   rw [if_neg c]
   obtain ⟨y,hy⟩:=zb9 (a:=a') (i:=lo+(lf+rg) / 2) (by omega)
   refine wpS_bind (zdk O W' hx hy ?_)
   dsimp only
   cases c':L x y with
   | true=>
     rw [if_pos rfl]
     refine wpS_pure ⟨rfl,rfl,by show lf≤(lf+rg) / 2;omega,by show (lf+rg) / 2≤k;omega,by show (lf+rg) / 2-lf+(i+1)≤k;omega,f5,fun t z ht tk hz=>?_⟩
     dsimp only at ht
     by_cases e:t=(lf+rg) / 2
     ·subst e
      rw [hy] at hz
      cases hz
      exact c'
     ·exact O.tr _ _ _ (W'.gat hx) (W'.gat hy) (W'.gat hz) c' (e4 _ t y z (by omega) tk hy hz)
   | false=>
     rw [if_neg (by decide)]
     have c2:L y x=true:=by
      rcases W'.tot (show lo+(lf+rg) / 2≠lo+k by omega) hy hx with h | h
      ·exact h
      ·rw [h] at c';cases c'
     refine wpS_pure ⟨rfl,rfl,by show (lf+rg) / 2+1≤rg;omega,f3,by show rg-((lf+rg) / 2+1)+(i+1)≤k;omega,fun t z ht hz=>?_,f6⟩
     dsimp only at ht
     by_cases e:t=(lf+rg) / 2
     ·subst e
      rw [hy] at hz
      cases hz
      exact c2
     ·exact O.tr _ _ _ (W'.gat hz) (W'.gat hy) (W'.gat hx) (e4 t _ z y (by omega) (by omega) hz hy) c2
  ·rintro ⟨r,lf,rg⟩ st ⟨f0,f1,f2,f3,f4,f5,f6⟩
   dsimp only at f1 f2 f3 f4 f5 f6 ⊢
   have:lf=rg:=by omega
   subst this
   exact ⟨f0,f1,f3,f5,f6⟩
  ·exact ⟨rfl,rfl,Nat.zero_le _,Nat.le_refl _,by show k-0+0≤k;omega,fun t y ht=>absurd ht (Nat.not_lt_zero _),fun t y ht tk=>by dsimp only at ht;omega⟩
  ·rintro ⟨r,lf,rg⟩ st ⟨rfl,f1,f2,f3,f4⟩
   dsimp only at f1 f2 f3 f4 ⊢
   subst f1
   dsimp only
   rw [moveDown'_eq]
   refine wpS_bind (wpS_modify (wpS_pure ?_))
   refine ⟨bubble a' (lo+k) (lo+k-(lo+lf)),rfl,rfl,by rw [bubble_size];exact e2,fun i hi=>?_,W'.perm (Array.perm_iff_toList_perm.mp (bubble_perm _ _ _)),?_⟩
   ·rw [getElem?_bubble (by omega) _ (by omega),if_neg (by omega),if_neg (by omega)]
    exact e3 i hi
   ·intro t u y z tu uk hy hz
    rw [getElem?_bubble (by omega) _ (by omega)] at hy hz
    have key:∀ {v:Nat} {y:Keyed},v<k+1→(if lo+v=lo+k-(lo+k-(lo+lf)) then a'[lo+k]? else if lo+k-(lo+k-(lo+lf))<lo+v∧lo+v≤lo+k then a'[lo+v-1]? else a'[lo+v]?)=some y→(v=lf∧y=x)∨(v<lf∧a'[lo+v]?=some y)∨(lf<v∧a'[lo+(v-1)]?=some y):=fun {v y} hv e=>by
     by_cases z1:v=lf
     ·rw [if_pos (by omega),hx] at e
      exact .inl ⟨z1,(Option.some.inj e).symm⟩
     ·rw [if_neg (by omega)] at e
      by_cases z2:v<lf
      ·rw [if_neg (by omega)] at e
       exact .inr (.inl ⟨z2,e⟩)
      ·rw [if_pos ⟨by omega,by omega⟩,show lo+v-1=lo+(v-1) by omega] at e
       exact .inr (.inr ⟨by omega,e⟩)
    rcases key (by omega) hy with ⟨a1,rfl⟩ | ⟨a1,a2⟩ | ⟨a1,a2⟩
    ·rcases key uk hz with ⟨b1,rfl⟩ | ⟨b1,b2⟩ | ⟨b1,b2⟩
     ·omega
     ·omega
     ·exact f4 (u-1) z (by omega) (by omega) b2
    ·rcases key uk hz with ⟨b1,rfl⟩ | ⟨b1,b2⟩ | ⟨b1,b2⟩
     ·exact f3 t y a1 a2
     ·exact e4 t u y z tu (by omega) a2 b2
     ·exact e4 t (u-1) y z (by omega) (by omega) a2 b2
    ·rcases key uk hz with ⟨b1,rfl⟩ | ⟨b1,b2⟩ | ⟨b1,b2⟩
     ·omega
     ·omega
     ·exact e4 (t-1) (u-1) y z (by omega) (by omega) a2 b2
 ·rintro c st ⟨a',f0,f1,f2,f3,f4,f5⟩
  refine ⟨a',f0,f1,f2,f3,f4,?_⟩
  rw [show n=max ok n by omega]
  exact f5
 ·exact ⟨a,rfl,rfl,rfl,fun _ _=>rfl,W,h⟩
 ·rintro ⟨r,u⟩ st ⟨a',rfl,f1,f2,f3,f4,f5⟩
  dsimp only at f1 ⊢
  subst f1
  exact wpS_pure (q a' f2 f3 f4 f5)
end
end L2
namespace L2
open PySem PySem.Spec PyProof.Rows PySem.W
section
variable {prog:Program} {w:World} {A:Around} {E:Value→Shared→Prop} {s:Shared} {k0:SortKind} {G:Keyed→Prop} {L:Keyed→Keyed→Bool}
theorem ziZ {a a':Array Keyed} {lo:Nat} (h:∀i,i<lo→a'[i]?=a[i]?):a'.toList.take lo=a.toList.take lo:=by
 refine List.ext_getElem? fun i=>?_
 by_cases z:i<lo
 ·rw [List.getElem?_take_of_lt z,List.getElem?_take_of_lt z,Array.getElem?_toList,Array.getElem?_toList,h i z]
 ·rw [List.getElem?_eq_none (by rw [List.length_take];omega),List.getElem?_eq_none (by rw [List.length_take];omega)]
theorem zlG {l:List Keyed} {a na:Nat} (h:a+na≤l.length):l=l.take a++(l.drop a).take na++l.drop (a+na):=by
 rw [List.append_assoc,←List.drop_drop,List.take_append_drop,List.take_append_drop]
theorem zi0 (O:Odr prog w A E s k0 G L) {a:Array Keyed} {p:Array (Nat × Nat × Nat)} {g i hi:Nat} {l0:List Keyed} {Q:Bool→SortSt→Prop} (W:Whl G L l0 a.toList) (R:Rns L a.toList 0 p.toList hi) (hh:hi≤a.size) (hip:i+1<p.size)
  (q:∀(a':Array Keyed) (p':Array (Nat × Nat × Nat)) (g':Nat),Whl G L l0 a'.toList→Rns L a'.toList 0 p'.toList hi→p'.size+1=p.size→a'.toList.drop hi=a.toList.drop hi→a'.size=a.size→Q true (SortSt.mk' k0 a' p' g' none)):
  wpS (model prog w) A E s (mergeAt' i) Q (SortSt.mk' k0 a p g none):=by
 have e0:mergeAt'=tat:=PySem.W.Fast.te6096456617080501612
 rw [e0]
 have lp:p.toList.length=p.size:=Array.length_toList
 obtain ⟨r1,h1⟩:∃r,p.toList[i]?=some r:=⟨_,List.getElem?_eq_getElem (by omega)⟩
 obtain ⟨r2,h2⟩:∃r,p.toList[i+1]?=some r:=⟨_,List.getElem?_eq_getElem (by omega)⟩
 have ep:p.toList=p.toList.take i++r1::r2::p.toList.drop (i+1+1):=by
  have d1:p.toList.drop i=r1::p.toList.drop (i+1):=by
   obtain ⟨k,rfl⟩:=List.getElem?_eq_some_iff.mp h1
   exact (List.getElem_cons_drop k).symm
  have d2:p.toList.drop (i+1)=r2::p.toList.drop (i+1+1):=by
   obtain ⟨k,rfl⟩:=List.getElem?_eq_some_iff.mp h2
   exact (List.getElem_cons_drop k).symm
  rw [←d2,←d1,List.take_append_drop]
 obtain ⟨sa,na,pw⟩:=r1
 obtain ⟨sb,nb,pw'⟩:=r2
 have R0:=R
 rw [ep] at R0
 obtain ⟨m,Ra,b1,b2,b3,c1,c2,c3,Rc⟩:=Rns.app.mp R0
 dsimp only at b1 b2 b3 c1 c2 c3 Rc
 subst b1 c1
 have le1:=Rc.le
 have la:a.toList.length=a.size:=Array.length_toList
 have li:(p.toList.take i).length=i:=by rw [List.length_take];omega
 generalize hxs:(a.toList.drop sa).take na=xs at b3
 generalize hys:(a.toList.drop (sa+na)).take nb=ys at c3
 have lx:xs.length=na:=by rw [←hxs,List.length_take,List.length_drop];omega
 have ly:ys.length=nb:=by rw [←hys,List.length_take,List.length_drop];omega
 have el:a.toList=a.toList.take sa++(xs++ys)++a.toList.drop (sa+na+nb):=by
  have t:=zlG (l:=a.toList) (a:=sa) (na:=na+nb) (by omega)
  rw [List.take_add,List.drop_drop,hxs,hys,←Nat.add_assoc] at t
  exact t
 have:=znp (p:=p) (p1:=p.toList.take i) (p2:=p.toList.drop (i+1+1)) (pw:=pw) (pw':=pw') (g:=g) (Q:=Q) O W ep el (by rw [List.length_take];omega) lx ly rfl b2 c2 b3 c3 fun a' p' g' zs hp' ha' iz pz=>?_
 ·rw [li] at this
  exact this
 have lz:zs.length=na+nb:=by rw [pz.length_eq,List.length_append,lx,ly]
 have ls:(a.toList.take sa).length=sa:=by rw [List.length_take];omega
 have P':a'.toList.Perm a.toList:=by
  rw [ha']
  conv=>rhs;rw [el]
  exact (pz.append_left _).append_right _
 have t1:a'.toList.take sa=a.toList.take sa:=by
  rw [ha',List.append_assoc,List.take_append_of_le_length (by omega),List.take_of_length_le (by omega)]
 have t2:a'.toList.drop (sa+na+nb)=a.toList.drop (sa+na+nb):=by
  rw [ha',List.drop_append_of_le_length (by rw [List.length_append];omega),List.drop_eq_nil_of_le (by rw [List.length_append];omega),List.nil_append]
 have t3:(a'.toList.drop sa).take (na+nb)=zs:=by
  rw [ha',List.append_assoc,List.drop_append_of_le_length (by omega),List.drop_eq_nil_of_le (by omega),List.nil_append,List.take_append_of_le_length (by omega),List.take_of_length_le (by omega)]
 refine q a' p' g' (W.perm P') ?_ ?_ ?_ ?_
 ·rw [hp']
  refine Rns.app.mpr ⟨sa,Ra.pre t1.symm (Nat.le_refl _),rfl,?_,?_,?_⟩
  ·show 1≤na+nb
   omega
  ·show Inc L ((a'.toList.drop sa).take (na+nb))
   rw [t3]
   exact iz
  ·show Rns L a'.toList (sa+(na+nb)) _ hi
   rw [←Nat.add_assoc]
   exact Rc.post t2.symm (Nat.le_refl _)
 ·have e1:=congrArg List.length hp'
  have e2:=congrArg List.length ep
  rw [List.length_append,List.length_cons,Array.length_toList] at e1
  rw [List.length_append,List.length_cons,List.length_cons,Array.length_toList] at e2
  omega
 ·have key:∀l:List Keyed,l.drop hi=(l.drop (sa+na+nb)).drop (hi-(sa+na+nb)):=fun l=>by
   rw [List.drop_drop]
   congr 1
   omega
  rw [key,key a.toList,t2]
 ·rw [←Array.length_toList,P'.length_eq,Array.length_toList]
theorem Rns.mod {l:List Keyed}:∀ {p q:List (Nat × Nat × Nat)} {a hi:Nat},q.map (fun r=>(r.1,r.2.1))=p.map (fun r=>(r.1,r.2.1))→Rns L l a p hi→Rns L l a q hi
 | [],[],a,hi,_,h=>h
 | [],r::q,a,hi,e,h=>by cases e
 | r::p,[],a,hi,e,h=>by cases e
 | (r1,r2,r3)::p,(t1,t2,t3)::q,a,hi,e,⟨h1,h2,h3,h4⟩=>by
   rw [List.map_cons,List.map_cons] at e
   injection e with e1 e2
   injection e1 with e1 e3
   dsimp only at e1 e3 h1 h2 h3 h4
   subst e1 e3
   exact ⟨h1,h2,h3,Rns.mod e2 h4⟩
theorem Rns.snoc {l:List Keyed} {p:List (Nat × Nat × Nat)} {lo n pw:Nat} (R:Rns L l 0 p lo) (h1:1≤n) (h:Inc L ((l.drop lo).take n)):Rns L l 0 (p++[(lo,n,pw)]) (lo+n):=Rns.app.mpr ⟨lo,R,rfl,h1,h,rfl⟩
theorem zi1 (p:Array (Nat × Nat × Nat)) (i pw:Nat):(p.modify i fun x=>match x with | (st,len,_)=>(st,len,pw)).toList.map (fun r=>(r.1,r.2.1))=p.toList.map (fun r=>(r.1,r.2.1)):=by
 refine List.ext_getElem? fun j=>?_
 rw [List.getElem?_map,List.getElem?_map,Array.getElem?_toList,Array.getElem?_toList,Array.getElem?_modify]
 split
 ·cases p[j]?<;>rfl
 ·rfl
theorem zlH (O:Odr prog w A E s k0 G L) {a:Array Keyed} {g:Nat} {l0:List Keyed} {Q:Unit→SortSt→Prop} (W:Whl G L l0 a.toList) (n2:2≤a.size)
  (q:∀(a':Array Keyed) (p':Array (Nat × Nat × Nat)) (g':Nat),Whl G L l0 a'.toList→Inc L a'.toList→Q () (SortSt.mk' k0 a' p' g' none)):
  wpS (model prog w) A E s sortRuns' Q (SortSt.mk' k0 a #[] g none):=by
 rw [sortRuns'_eq]
 refine wpS_bind (wpS_get ?_)
 have ea:arrOf (SortSt.mk' k0 a #[] g none)=a:=rfl
 dsimp only
 rw [ea]
 refine wpS_bind (wpS_mono (wpS_forRange (fun i c st=>∃(a1:Array Keyed) (p:Array (Nat × Nat × Nat)) (g1:Nat),st=SortSt.mk' k0 a1 p g1 none∧c.1=none∧Whl G L l0 a1.toList∧a1.size=a.size∧Rns L a1.toList 0 p.toList c.2∧c.2≤a.size∧i≤c.2)
  (Q:=fun c st=>∃(a1:Array Keyed) (p:Array (Nat × Nat × Nat)) (g1:Nat),st=SortSt.mk' k0 a1 p g1 none∧c.1=none∧Whl G L l0 a1.toList∧a1.size=a.size∧Rns L a1.toList 0 p.toList a.size) ?_ ?_ ?_) ?_)
 ·rintro i ⟨r,lo⟩ st _ hi ⟨a1,p,g1,rfl,e1,W1,sz1,R1,e2,e3⟩
  dsimp only at e1 R1 e2 e3 ⊢
  subst e1
  by_cases c1:lo ≥ a.size
  ·rw [if_pos c1]
   exact wpS_pure ⟨a1,p,g1,rfl,rfl,W1,sz1,by rw [←show lo=a.size by omega];exact R1⟩
  rw [if_neg c1]
  refine wpS_bind (zlE O W1 (by omega) (by omega) fun a2 n n1 n2' sz2 pre2 W2 S2=>?_)
  dsimp only
  have R2:Rns L a2.toList 0 p.toList lo:=R1.pre (ziZ pre2).symm (Nat.le_refl _)
  by_cases c2:n<minRun' a.size a.size 0
  ·rw [if_pos c2]
   refine wpS_bind (zcI ?_)
   refine wpS_bind (zlF O W2 n1 (by omega) (by omega) S2 fun a3 sz3 pre3 W3 S3=>?_)
   rw [if_neg (by decide)]
   have R3:Rns L a3.toList 0 p.toList lo:=R2.pre (ziZ pre3).symm (Nat.le_refl _)
   have m1:1≤min (a.size-lo) (minRun' a.size a.size 0):=by omega
   have m2:lo+min (a.size-lo) (minRun' a.size a.size 0)≤a.size:=by omega
   have sz:a3.size=a.size:=by omega
   clear S2 W2 R2 R1 W1 pre2 pre3
   generalize min (a.size-lo) (minRun' a.size a.size 0)=n' at S3 m1 m2 ⊢
   refine wpS_bind (wpS_get ?_)
   have epd:pendingOf (SortSt.mk' k0 a3 p g1 none)=p:=rfl
   try dsimp only
   rw [epd]
   cases hb:p.back? with
   | none=>
     refine wpS_bind (wpS_modify (wpS_pure ?_))
     refine ⟨a3,p.push (lo,n',0),g1,rfl,rfl,W3,sz,?_,m2,by show i+1≤lo+n';omega⟩
     rw [Array.toList_push]
     exact R3.snoc m1 S3.inc
   | some v=>
     obtain ⟨s1,n1',pw0⟩:=v
     dsimp only
     generalize power' a.size (2*s1+n1') (2*s1+n1'+n1'+n') a.size=pw
     refine wpS_bind (wpS_mono (wpS_forRange (fun j c st=>∃(a4:Array Keyed) (p4:Array (Nat × Nat × Nat)) (g4:Nat),st=SortSt.mk' k0 a4 p4 g4 none∧c.1=none∧Whl G L l0 a4.toList∧a4.size=a.size∧Rns L a4.toList 0 p4.toList lo∧a4.toList.drop lo=a3.toList.drop lo)
      (Q:=fun c st=>∃(a4:Array Keyed) (p4:Array (Nat × Nat × Nat)) (g4:Nat),st=SortSt.mk' k0 a4 p4 g4 none∧c.1=none∧Whl G L l0 a4.toList∧a4.size=a.size∧Rns L a4.toList 0 p4.toList lo∧a4.toList.drop lo=a3.toList.drop lo) ?_ ?_ ?_) ?_)
     ·rintro j ⟨r,u⟩ st _ hj ⟨a4,p4,g4,rfl,f1,W4,sz4,R4,d4⟩
      dsimp only at f1 ⊢
      subst f1
      refine wpS_bind (wpS_get ?_)
      have ep4:pendingOf (SortSt.mk' k0 a4 p4 g4 none)=p4:=rfl
      try dsimp only
      rw [ep4]
      by_cases c3:p4.size > 1
      ·rw [if_pos c3]
       have hv:p4[p4.size-2]?=some p4[p4.size-2]:=Array.getElem?_eq_getElem (by omega)
       rw [hv]
       dsimp only
       by_cases c4:p4[p4.size-2].2.2≤pw
       ·rw [if_pos c4]
        exact wpS_pure ⟨a4,p4,g4,rfl,rfl,W4,sz4,R4,d4⟩
       ·rw [if_neg c4]
        refine wpS_bind (zi0 O W4 R4 (by omega) (by omega) fun a5 p5 g5 W5 R5 l5 d5 sz5=>?_)
        rw [if_neg (by decide)]
        exact wpS_pure ⟨a5,p5,g5,rfl,rfl,W5,by omega,R5,by rw [d5,d4]⟩
      ·rw [if_neg c3]
       exact wpS_pure ⟨a4,p4,g4,rfl,rfl,W4,sz4,R4,d4⟩
     ·rintro c st h
      exact h
     ·exact ⟨a3,p,g1,rfl,rfl,W3,sz,R3,rfl⟩
     ·rintro ⟨r,u⟩ st ⟨a4,p4,g4,rfl,f1,W4,sz4,R4,d4⟩
      dsimp only at f1 ⊢
      subst f1
      dsimp only
      refine wpS_bind (wpS_modify (wpS_bind (wpS_modify (wpS_pure ?_))))
      refine ⟨a4,(p4.modify (p4.size-1) fun x=>match x with | (st,len,_)=>(st,len,pw)).push (lo,n',0),g4,rfl,rfl,W4,sz4,?_,m2,by show i+1≤lo+n';omega⟩
      rw [Array.toList_push]
      refine (R4.mod (zi1 p4 _ pw)).snoc m1 ?_
      rw [d4]
      exact S3.inc
  ·rw [if_neg c2]
   have m2:lo+n≤a.size:=by omega
   have m1:=n1
   have sz:a2.size=a.size:=by omega
   have R3:=R2
   have W3:=W2
   have S3:=S2
   clear S2 W2 R2 R1 W1 pre2
   generalize a2=a3 at R3 W3 S3 sz ⊢
   generalize n=n' at S3 m1 m2 ⊢
   refine wpS_bind (wpS_get ?_)
   have epd:pendingOf (SortSt.mk' k0 a3 p g1 none)=p:=rfl
   try dsimp only
   rw [epd]
   cases hb:p.back? with
   | none=>
     refine wpS_bind (wpS_modify (wpS_pure ?_))
     refine ⟨a3,p.push (lo,n',0),g1,rfl,rfl,W3,sz,?_,m2,by show i+1≤lo+n';omega⟩
     rw [Array.toList_push]
     exact R3.snoc m1 S3.inc
   | some v=>
     obtain ⟨s1,n1',pw0⟩:=v
     dsimp only
     generalize power' a.size (2*s1+n1') (2*s1+n1'+n1'+n') a.size=pw
     refine wpS_bind (wpS_mono (wpS_forRange (fun j c st=>∃(a4:Array Keyed) (p4:Array (Nat × Nat × Nat)) (g4:Nat),st=SortSt.mk' k0 a4 p4 g4 none∧c.1=none∧Whl G L l0 a4.toList∧a4.size=a.size∧Rns L a4.toList 0 p4.toList lo∧a4.toList.drop lo=a3.toList.drop lo)
      (Q:=fun c st=>∃(a4:Array Keyed) (p4:Array (Nat × Nat × Nat)) (g4:Nat),st=SortSt.mk' k0 a4 p4 g4 none∧c.1=none∧Whl G L l0 a4.toList∧a4.size=a.size∧Rns L a4.toList 0 p4.toList lo∧a4.toList.drop lo=a3.toList.drop lo) ?_ ?_ ?_) ?_)
     ·rintro j ⟨r,u⟩ st _ hj ⟨a4,p4,g4,rfl,f1,W4,sz4,R4,d4⟩
      dsimp only at f1 ⊢
      subst f1
      refine wpS_bind (wpS_get ?_)
      have ep4:pendingOf (SortSt.mk' k0 a4 p4 g4 none)=p4:=rfl
      try dsimp only
      rw [ep4]
      by_cases c3:p4.size > 1
      ·rw [if_pos c3]
       have hv:p4[p4.size-2]?=some p4[p4.size-2]:=Array.getElem?_eq_getElem (by omega)
       rw [hv]
       dsimp only
       by_cases c4:p4[p4.size-2].2.2≤pw
       ·rw [if_pos c4]
        exact wpS_pure ⟨a4,p4,g4,rfl,rfl,W4,sz4,R4,d4⟩
       ·rw [if_neg c4]
        refine wpS_bind (zi0 O W4 R4 (by omega) (by omega) fun a5 p5 g5 W5 R5 l5 d5 sz5=>?_)
        rw [if_neg (by decide)]
        exact wpS_pure ⟨a5,p5,g5,rfl,rfl,W5,by omega,R5,by rw [d5,d4]⟩
      ·rw [if_neg c3]
       exact wpS_pure ⟨a4,p4,g4,rfl,rfl,W4,sz4,R4,d4⟩
     ·rintro c st h
      exact h
     ·exact ⟨a3,p,g1,rfl,rfl,W3,sz,R3,rfl⟩
     ·rintro ⟨r,u⟩ st ⟨a4,p4,g4,rfl,f1,W4,sz4,R4,d4⟩
      dsimp only at f1 ⊢
      subst f1
      dsimp only
      refine wpS_bind (wpS_modify (wpS_bind (wpS_modify (wpS_pure ?_))))
      refine ⟨a4,(p4.modify (p4.size-1) fun x=>match x with | (st,len,_)=>(st,len,pw)).push (lo,n',0),g4,rfl,rfl,W4,sz4,?_,m2,by show i+1≤lo+n';omega⟩
      rw [Array.toList_push]
      refine (R4.mod (zi1 p4 _ pw)).snoc m1 ?_
      rw [d4]
      exact S3.inc
 ·rintro ⟨r,lo⟩ st ⟨a1,p,g1,e0,e1,W1,sz1,R1,e2,e3⟩
  dsimp only at e1 R1 e2 e3 ⊢
  exact ⟨a1,p,g1,e0,e1,W1,sz1,by rw [←show lo=a.size by omega];exact R1⟩
 ·exact ⟨a,#[],g,rfl,rfl,W,rfl,rfl,Nat.zero_le _,Nat.zero_le _⟩
 ·rintro ⟨r,lo⟩ st ⟨a1,p,g1,rfl,e1,W1,sz1,R1⟩
  dsimp only at e1 ⊢
  subst e1
  dsimp only
  refine wpS_bind (wpS_mono (wpS_forRange (fun i c st=>∃(a2:Array Keyed) (p2:Array (Nat × Nat × Nat)) (g2:Nat),st=SortSt.mk' k0 a2 p2 g2 none∧c.1=none∧Whl G L l0 a2.toList∧a2.size=a.size∧Rns L a2.toList 0 p2.toList a.size∧p2.size+i≤a.size)
   (Q:=fun c st=>∃(a2:Array Keyed) (p2:Array (Nat × Nat × Nat)) (g2:Nat),st=SortSt.mk' k0 a2 p2 g2 none∧c.1=none∧Whl G L l0 a2.toList∧a2.size=a.size∧Rns L a2.toList 0 p2.toList a.size∧p2.size≤1) ?_ ?_ ?_) ?_)
  ·rintro i ⟨r,u⟩ st _ hi ⟨a2,p2,g2,rfl,e1,W2,sz2,R2,e2⟩
   dsimp only at e1 ⊢
   subst e1
   refine wpS_bind (wpS_get ?_)
   have ep:pendingOf (SortSt.mk' k0 a2 p2 g2 none)=p2:=rfl
   try dsimp only
   rw [ep]
   by_cases c1:p2.size≤1
   ·rw [if_pos c1]
    exact wpS_pure ⟨a2,p2,g2,rfl,rfl,W2,sz2,R2,c1⟩
   rw [if_neg c1]
   refine wpS_bind (zi0 O W2 R2 (by omega) ?_ fun a3 p3 g3 W3 R3 l3 _ sz3=>?_)
   ·have key:∀(c:Prop) [Decidable c] (n m:Nat),n+1<m→(if c then n-1 else n)+1<m:=fun c _ n m h=>by split<;>omega
    exact key _ _ _ (by omega)
   ·rw [if_neg (by decide)]
    exact wpS_pure ⟨a3,p3,g3,rfl,rfl,W3,by omega,R3,by omega⟩
  ·rintro ⟨r,u⟩ st ⟨a2,p2,g2,e0,e1,W2,sz2,R2,e2⟩
   exact ⟨a2,p2,g2,e0,e1,W2,sz2,R2,by omega⟩
  ·refine ⟨a1,p,g1,rfl,rfl,W1,sz1,R1,?_⟩
   have:=R1.le
   rw [Array.length_toList] at this
   omega
  ·rintro ⟨r,u⟩ st ⟨a2,p2,g2,rfl,e1,W2,sz2,R2,e2⟩
   dsimp only at e1 ⊢
   subst e1
   refine wpS_pure (q a2 p2 g2 W2 ?_)
   have lp:p2.toList.length≤1:=by rw [Array.length_toList];exact e2
   match hp:p2.toList,lp with
   | [],_=>
     rw [hp] at R2
     have:0=a.size:=R2
     omega
   | [(s1,n1,pw)],_=>
     rw [hp] at R2
     obtain ⟨h1,h2,h3,h4⟩:=R2
     have h4:0+n1=a.size:=h4
     dsimp only at h3
     rw [List.drop_zero,List.take_of_length_le (by rw [Array.length_toList];omega)] at h3
     exact h3
   | _::_::_,h=>simp at h
end
end L2
namespace L2
open PySem PySem.Spec PyProof.Rows PySem.W
theorem wpAny_attempt {α:Type} {M:Model} {A:Around} {E:Value→Shared→Prop} {m:Sem α} {Q:Except Value α→Shared→Prop} {s:Shared} (h:wpAny M A m (fun a s'=>Q (.ok a) s') (fun e s'=>Q (.error e) s') s):wpAny M A m.attempt Q E s:=by
 with_unfolding_all
  intro Γ
  intros
  rw [Sem.wp_attempt]
  apply h
  all_goals assumption
section
variable {prog:Program} {w:World} {A:Around} {E:Value→Shared→Prop} {s:Shared}
open Classical in
noncomputable def idxOf (n:Nat) (f:Nat→Keyed) (x:Keyed):Nat:=if h:∃i,i<n∧f i=x then h.choose else 0
theorem zmI {n:Nat} {f:Nat→Keyed} (inj:∀i j,i<n→j<n→f i=f j→i=j) {i:Nat} (hi:i<n):idxOf n f (f i)=i:=by
 unfold idxOf
 have h:∃j,j<n∧f j=f i:=⟨i,hi,rfl⟩
 rw [dif_pos h]
 exact inj _ _ h.choose_spec.1 hi h.choose_spec.2
theorem zlI {its:List Value} {κ:SortKind} {lt:Nat→Nat→Bool} (n2:2≤its.length) (T:Tot its.length lt) (inj:∀i j,i<its.length→j<its.length→its.getD i Value.none=its.getD j Value.none→i=j)
  (ask:∀i j (C:Bool→Shared→Prop),i<its.length→j<its.length→C (lt i j) s→kas_ask prog w A κ its i j C s):
  wpAny (model prog w) A (sortRuns'.run (SortSt.mk' κ (its.toArray.zip its.toArray) #[] 7 none)) (fun r s'=>∃p:Array Nat,arrOf r.2=p.map (kas_item (its.toArray.zip its.toArray))∧failedOf r.2=none∧s'=s∧Pm its.length p∧Sd lt p its.length) E s:=by
 let f:Nat→Keyed:=kas_item (its.toArray.zip its.toArray)
 have fe:∀i,i<its.length→f i=(its.getD i Value.none,its.getD i Value.none):=fun i hi=>by
  show (its.toArray.zip its.toArray).getD i (Value.none,Value.none)=_
  have z:(its.zip its)[i]?=some (its[i],its[i]):=List.getElem?_zip_eq_some.mpr ⟨List.getElem?_eq_getElem hi,List.getElem?_eq_getElem hi⟩
  rw [Array.getD_eq_getD_getElem?,←Array.getElem?_toList,Array.toList_zip,z,List.getD_eq_getElem?_getD,List.getElem?_eq_getElem hi]
  rfl
 have finj:∀i j,i<its.length→j<its.length→f i=f j→i=j:=fun i j hi hj e=>by
  rw [fe i hi,fe j hj] at e
  exact inj i j hi hj (congrArg Prod.fst e)
 let ix:=idxOf its.length f
 have ixf:∀i,i<its.length→ix (f i)=i:=fun i hi=>zmI finj hi
 let G:Keyed→Prop:=fun x=>∃i,i<its.length∧f i=x
 let L:Keyed→Keyed→Bool:=fun x y=>lt (ix x) (ix y)
 have O:Odr prog w A E s κ G L:=by
  refine ⟨?_,?_,?_⟩
  ·rintro x y st Q ⟨i,hi,rfl⟩ ⟨j,hj,rfl⟩ hk q
   rw [lt'_eq]
   refine wpS_bind (wpS_get (wpS_bind (wpS_lift (wpAny_attempt ?_))))
   rw [hk,fe i hi,fe j hj]
   have q':Q (some (lt i j)) st:=by
    have:L (f i) (f j)=lt i j:=by show lt (ix (f i)) (ix (f j))=_;rw [ixf i hi,ixf j hj]
    rw [←this]
    exact q
   exact wpAny_mono (ask i j (fun b s'=>b=lt i j∧s'=s) hi hj ⟨rfl,rfl⟩) (fun b s' ⟨e1,e2⟩=>⟨e2,by rw [e1];exact wpS_pure q'⟩) fun _ _ z=>z.elim
  ·rintro x y z ⟨i,hi,rfl⟩ ⟨j,hj,rfl⟩ ⟨k,hk,rfl⟩ h1 h2
   show lt (ix (f i)) (ix (f k))=true
   have h1:lt (ix (f i)) (ix (f j))=true:=h1
   have h2:lt (ix (f j)) (ix (f k))=true:=h2
   rw [ixf _ hi,ixf _ hj] at h1
   rw [ixf _ hj,ixf _ hk] at h2
   rw [ixf _ hi,ixf _ hk]
   exact T.trans i j k hi hj hk h1 h2
  ·rintro x y ⟨i,hi,rfl⟩ ⟨j,hj,rfl⟩ h1
   show lt (ix (f j)) (ix (f i))=false
   have h1:lt (ix (f i)) (ix (f j))=true:=h1
   rw [ixf _ hi,ixf _ hj] at h1
   rw [ixf _ hi,ixf _ hj]
   exact T.asym i j hi hj h1
 have e0:(its.toArray.zip its.toArray).toList=(List.range its.length).map f:=by
  rw [Array.toList_zip]
  refine List.ext_getElem? fun i=>?_
  by_cases hi:i<its.length
  ·rw [List.getElem?_map,List.getElem?_range hi]
   show _=some (f i)
   have z:(its.zip its)[i]?=some (its[i],its[i]):=List.getElem?_zip_eq_some.mpr ⟨List.getElem?_eq_getElem hi,List.getElem?_eq_getElem hi⟩
   rw [fe i hi,z,List.getD_eq_getElem?_getD,List.getElem?_eq_getElem hi]
   rfl
  ·rw [List.getElem?_eq_none (by simp;omega),List.getElem?_eq_none (by simp;omega)]
 have W:Whl G L ((List.range its.length).map f) (its.toArray.zip its.toArray).toList:=by
  rw [e0]
  refine ⟨fun x hx=>?_,?_,List.Perm.refl _⟩
  ·obtain ⟨i,hi,rfl⟩:=List.mem_map.mp hx
   exact ⟨i,List.mem_range.mp hi,rfl⟩
  ·rw [List.pairwise_map]
   refine List.Pairwise.imp_of_mem (fun {i j} hi hj ij=>?_) (List.nodup_iff_pairwise_ne.mp List.nodup_range)
   have hi:=List.mem_range.mp hi
   have hj:=List.mem_range.mp hj
   show lt (ix (f i)) (ix (f j))=true∨lt (ix (f j)) (ix (f i))=true
   rw [ixf i hi,ixf j hj]
   cases c:lt i j with
   | true=>exact .inl rfl
   | false=>exact .inr (T.tot i j hi hj ij c)
 have sz:(its.toArray.zip its.toArray).size=its.length:=by simp
 refine wpAny_mono (zlH (Q:=fun _ st=>∃p:Array Nat,arrOf st=p.map f∧failedOf st=none∧Pm its.length p∧Sd lt p its.length) O W (by rw [sz];exact n2) fun a' p' g' W' I'=>?_) (fun r s' ⟨e1,p,h1,h2,h3,h4⟩=>⟨p,h1,h2,e1,h3,h4⟩) fun _ _ z=>z
 have ea:∀x,x∈a'.toList→f (ix x)=x:=fun x hx=>by
  obtain ⟨i,hi,rfl⟩:=W'.g x hx
  rw [ixf i hi]
 have ep:(a'.toList.map ix).map f=a'.toList:=by
  rw [List.map_map]
  exact (List.map_congr_left fun x hx=>ea x hx).trans (List.map_id _)
 have pp:(a'.toList.map ix).Perm (List.range its.length):=by
  have:=W'.pm.map ix
  rw [List.map_map] at this
  refine this.trans (List.Perm.of_eq ?_)
  exact (List.map_congr_left fun i hi=>ixf i (List.mem_range.mp hi)).trans (List.map_id _)
 refine ⟨(a'.toList.map ix).toArray,?_,rfl,⟨pp⟩,?_⟩
 ·show a'=_
  apply Array.toList_inj.mp
  rw [Array.toList_map]
  exact ep.symm
 ·intro i j ij jn
  have ln:(a'.toList.map ix).length=its.length:=by rw [pp.length_eq,List.length_range]
  have ln':a'.toList.length=its.length:=by rw [←ln,List.length_map]
  unfold Inc at I'
  rw [List.pairwise_iff_getElem] at I'
  have:=I' i j (by omega) (by omega) ij
  have gt:∀ {k:Nat} (hk:k<a'.toList.length),(a'.toList.map ix).toArray.getD k 0=ix a'.toList[k]:=fun {k} hk=>by
   rw [Array.getD_eq_getD_getElem?,List.getElem?_toArray,List.getElem?_map,List.getElem?_eq_getElem hk]
   rfl
  rw [gt (by omega),gt (by omega)]
  exact this
end
end L2
namespace L2
open PySem PySem.Spec PyProof.Rows PySem.W
theorem zj3 {ns:List Int} (h:ns.Nodup) {i j:Nat} {x:Int} (hi:ns[i]?=some x) (hj:ns[j]?=some x):i=j:=by
 rw [List.nodup_iff_pairwise_ne,List.pairwise_iff_getElem] at h
 obtain ⟨h1,e1⟩:=List.getElem?_eq_some_iff.mp hi
 obtain ⟨h2,e2⟩:=List.getElem?_eq_some_iff.mp hj
 by_cases z:i=j
 ·exact z
 ·rcases Nat.lt_or_gt_of_ne z with k | k
  ·exact (h i j h1 h2 k (by rw [e1,e2])).elim
  ·exact (h j i h2 h1 k (by rw [e1,e2])).elim
section
variable {X:Cx}
end
end L2
namespace L2
open PySem PySem.Spec PyProof.Rows
end L2
namespace L2
open PySem PySem.Spec PyProof.Rows
theorem ze5 {xs:Array Nat} {j:Nat} (hr:xs.toList.Pairwise (· < ·)):∀(fuel lo hi:Nat),hi-lo≤fuel→lo≤hi→hi≤xs.size→(∀(k x:Nat),k<lo→xs[k]?=some x→x<j)→(∀(k x:Nat),hi≤k→xs[k]?=some x→j≤x)→
  SetTable.below.go xs j fuel lo hi≤xs.size∧(∀(k x:Nat),k<SetTable.below.go xs j fuel lo hi→xs[k]?=some x→x<j)∧∀(k x:Nat),SetTable.below.go xs j fuel lo hi≤k→xs[k]?=some x→j≤x
 | 0,lo,hi,f,lh,hs,h1,h2=>by
   have:lo=hi:=by omega
   subst this
   exact ⟨hs,h1,h2⟩
 | fuel+1,lo,hi,f,lh,hs,h1,h2=>by
   unfold SetTable.below.go
   by_cases c:lo<hi
   ·rw [if_pos c]
    have ml:(lo+hi) / 2<hi:=by omega
    have mz:(lo+hi) / 2<xs.size:=by omega
    have eg:xs.getD ((lo+hi) / 2) j=xs[(lo+hi) / 2]:=by simp [Array.getD,mz]
    have em:xs[(lo+hi) / 2]?=some xs[(lo+hi) / 2]:=Array.getElem?_eq_getElem mz
    have mono:∀(k l x y:Nat),k<l→xs[k]?=some x→xs[l]?=some y→x<y:=fun k l x y kl ex ey=>by
     obtain ⟨a1,b1⟩:=Array.getElem?_eq_some_iff.mp ex
     obtain ⟨a2,b2⟩:=Array.getElem?_eq_some_iff.mp ey
     have:=(List.pairwise_iff_getElem.mp hr) k l (by simpa using a1) (by simpa using a2) kl
     rw [Array.getElem_toList,Array.getElem_toList,b1,b2] at this
     exact this
    dsimp only
    by_cases d:xs.getD ((lo+hi) / 2) j<j
    ·rw [if_pos d]
     rw [eg] at d
     refine ze5 hr fuel _ hi (by omega) (by omega) hs (fun k x hk ex=>?_) h2
     by_cases e:k=(lo+hi) / 2
     ·subst e
      rw [em] at ex
      cases ex
      exact d
     ·exact Nat.lt_trans (mono k _ _ _ (by omega) ex em) d
    ·rw [if_neg d]
     rw [eg] at d
     refine ze5 hr fuel lo _ (by omega) (by omega) (by omega) h1 fun k x hk ex=>?_
     by_cases e:k=(lo+hi) / 2
     ·subst e
      rw [em] at ex
      cases ex
      omega
     ·have:=mono _ k _ _ (by omega) em ex
      omega
   ·rw [if_neg c]
    have:lo=hi:=by omega
    subst this
    exact ⟨hs,h1,h2⟩
theorem zhb {xs:Array Nat} {j:Nat} (hr:xs.toList.Pairwise (· < ·)):SetTable.below xs j≤xs.size∧(∀(k x:Nat),k<SetTable.below xs j→xs[k]?=some x→x<j)∧∀(k x:Nat),SetTable.below xs j≤k→xs[k]?=some x→j≤x:=
 ze5 hr xs.size 0 xs.size (by omega) (by omega) (Nat.le_refl _) (fun k x h=>by omega) (fun k x h e=>by
  have:=(Array.getElem?_eq_some_iff.mp e).1
  omega)
structure TOk (b:Bool) (t:SetTable):Prop where
 ri:t.place.toList.Pairwise (· < ·)
 du:t.dummies = #[]
 le:t.led=b
theorem TOk.stand {b:Bool} {t:SetTable} (h:TOk b t) (n:Nat):TOk b (t.standIn n):=⟨by
 show (Array.range n).toList.Pairwise (· < ·)
 rw [Array.toList_range]
 exact List.pairwise_lt_range,rfl,h.le⟩
theorem zmJ {b:Bool} {t:SetTable} (h:TOk b t) {j:Nat} (hj:t.place[SetTable.below t.place j]?≠some j):TOk b (t.put j).1:=by
 obtain ⟨p0,p1,p2⟩:=zhb (j:=j) h.ri
 refine ⟨?_,?_,h.le⟩
 ·show (SetTable.insertAt t.place (SetTable.below t.place j) j).toList.Pairwise (· < ·)
  rw [SetTable.toList_insertAt,List.pairwise_append]
  refine ⟨h.ri.sublist (List.take_sublist _ _),?_,fun x hx y hy=>?_⟩
  ·rw [List.pairwise_cons]
   refine ⟨fun y hy=>?_,h.ri.sublist (List.drop_sublist _ _)⟩
   obtain ⟨k,hk,ek⟩:=List.getElem_of_mem hy
   rw [List.getElem_drop] at ek
   rw [List.length_drop] at hk
   have ey:t.place[SetTable.below t.place j+k]?=some y:=by
    rw [←Array.getElem?_toList,List.getElem?_eq_getElem (by omega),ek]
   have le:=p2 _ _ (by omega) ey
   refine Nat.lt_of_le_of_ne le fun e=>?_
   subst e
   by_cases k0:k=0
   ·subst k0
    exact hj ey
   ·have lt:SetTable.below t.place j<t.place.size:=by
     rw [Array.length_toList] at hk
     omega
    have e0:t.place[SetTable.below t.place j]?=some t.place[SetTable.below t.place j]:=Array.getElem?_eq_getElem lt
    have l0:=p2 _ _ (Nat.le_refl _) e0
    have:=(List.pairwise_iff_getElem.mp h.ri) (SetTable.below t.place j) (SetTable.below t.place j+k) (by simpa using lt) (by omega) (by omega)
    rw [ek,Array.getElem_toList] at this
    omega
  ·obtain ⟨k,hk,ek⟩:=List.getElem_of_mem hx
   rw [List.getElem_take] at ek
   rw [List.length_take] at hk
   have ex:t.place[k]?=some x:=by rw [←Array.getElem?_toList,List.getElem?_eq_getElem (by omega),ek]
   have lx:=p1 _ _ (by omega) ex
   rcases List.mem_cons.mp hy with rfl | hy
   ·exact lx
   ·obtain ⟨k,hk,ek⟩:=List.getElem_of_mem hy
    rw [List.getElem_drop] at ek
    rw [List.length_drop] at hk
    have ey:t.place[SetTable.below t.place j+k]?=some y:=by
     rw [←Array.getElem?_toList,List.getElem?_eq_getElem (by omega),ek]
    have le:=p2 _ _ (by omega) ey
    omega
 ·show (if SetTable.has t.dummies j then SetTable.eraseAt t.dummies (SetTable.below t.dummies j) else t.dummies) = #[]
  rw [h.du]
  have:SetTable.has #[] j=false:=by simp [SetTable.has]
  rw [this]
  rfl
theorem zeJ {t:SetTable} (du:t.dummies = #[]) {hashAt:Nat→Int} {h:Int}:∀(fuel:Nat) (p:SetTable.Probe) (j:Nat) (d:Option Nat),p.dummy=none→SetTable.probe.go t hashAt h fuel p=some (.empty j d)→d=none∧t.place[SetTable.below t.place j]?≠some j
 | 0,p,j,d,_,e=>by cases e
 | fuel+1,p,j,d,hp,e=>by
   unfold SetTable.probe.go at e
   have nd:∀q:SetTable.Probe,(t.advance q).dummy=q.dummy:=fun q=>by
    unfold SetTable.advance
    split<;>rfl
   cases es:t.slot p.j with
   | empty=>
     rw [es] at e
     have e:=Option.some.inj e
     injection e with e1 e2
     subst e1
     refine ⟨by rw [←e2,hp],fun z=>?_⟩
     unfold SetTable.slot at es
     dsimp only at es
     rw [z] at es
     simp at es
   | dummy=>
     unfold SetTable.slot at es
     rw [du] at es
     simp [SetTable.has] at es
     split at es<;>cases es
   | live i=>
     rw [es] at e
     dsimp only at e
     split at e
     ·cases e
     ·exact zeJ du fuel _ j d (by rw [nd,hp]) e
theorem zmK {b:Bool} {t:SetTable} (h:TOk b t) (es:Array (Int × Value)) (hs:Int) (x:Value):TOk b (layNew t es hs x).2.1:=by
 unfold layNew
 cases e:t.freeSlot hs with
 | none=>exact h.stand _
 | some r=>
   obtain ⟨slot,wd⟩:=r
   have ne:t.place[SetTable.below t.place slot]?≠some slot:=by
    unfold SetTable.freeSlot at e
    cases em:t.probe (fun _=>hs+1) hs (t.probeStart hs) with
    | none=>rw [em] at e;cases e
    | some m=>
      cases m with
      | candidate _ _ _=>rw [em] at e;cases e
      | empty j d=>
        rw [em] at e
        obtain ⟨d0,g⟩:=zeJ h.du _ _ j d rfl em
        subst d0
        cases e
        exact g
   have:=zmJ h ne
   dsimp only
   unfold SetTable.orStandIn
   split
   ·exact this
   ·exact this.stand _
theorem zj4 {b:Bool} {t:SetTable} (h:TOk b t) (es:Array (Int × Value)) (wanted:Nat):TOk b (relayAll t es wanted).2.1:=by
 unfold relayAll
 cases e:t.relaid (es.map (·.1)) wanted with
 | none=>exact h.stand _
 | some r=>
   obtain ⟨t',order⟩:=r
   dsimp only
   split
   ·unfold SetTable.relaid SetTable.laid at e
    cases el:SetTable.layClean (SetTable.sizeAbove wanted-1) (es.map (·.1)) with
    | none=>rw [el] at e;cases e
    | some ow=>
      rw [el] at e
      have e:=Option.some.inj e
      injection e with e1 e2
      subst e1
      refine ⟨?_,rfl,h.le⟩
      show (List.map _ (List.filterMap _ _)).Pairwise _
      rw [List.pairwise_map,List.pairwise_filterMap]
      refine List.pairwise_lt_range.imp fun {x y} xy p hp q hq=>?_
      cases ox:ow.getD x none with
      | none=>rw [ox] at hp;cases hp
      | some i=>
        cases oy:ow.getD y none with
        | none=>rw [oy] at hq;cases hq
        | some k=>
          rw [ox] at hp
          rw [oy] at hq
          cases hp
          cases hq
          exact xy
   ·exact h.stand _
end L2
namespace L2
open PySem PySem.Spec PyProof.Rows
def kOf (e:Int × Value):Int:=match e.2 with
 | .int i _=>i
 | _=>0
def SetB (prog:Program) (w:World) (h:Heap) (a:Addr) (b:Bool) (ns:List Int):Prop:=∃o es ep t,h.get? a=some o∧o.ExactSet∧o.data=.set es ep t∧ElemsOf (intKind prog w) es.toList∧t.fits es.size=true∧TOk b t∧(es.toList.map kOf).Perm ns
section
variable {prog:Program} {w:World} {A:Around} {E:Value→Shared→Prop} {s:Shared}
theorem zkM {es:List (Int × Value)} (h:ElemsOf (intKind prog w) es) {e:Int × Value} (he:e∈es) (k:Int):(intKind prog w).is k e.2=decide (k=kOf e):=by
 obtain ⟨⟨j,hj,_⟩,_⟩:=h e he
 rw [KeyKind.is_eq_decide hj k]
 have:kOf e=j:=by
  unfold kOf
  have hj:Value.isInt j e.2=true:=hj
  cases ev:e.2<;>rw [ev] at hj<;>simp [Value.isInt] at hj
  exact hj
 rw [this]
theorem SetB.put {h:Heap} {a:Addr} {o:Obj} {es:Array (Int × Value)} {ep:Nat} {t:SetTable} {b:Bool} {es':Array (Int × Value)} {t':SetTable} {ns:List Int} (ho:h.get? a=some o) (hex:o.ExactSet) (hd:o.data=.set es ep t) (hel:ElemsOf (intKind prog w) es'.toList) (hf:t'.fits es'.size=true) (ht:TOk b t') (hp:(es'.toList.map kOf).Perm ns):
  (h.update a (Obj.putSet es' t')).get? a=some { o with data:=.set es' (ep+1) t' }∧SetB prog w (h.update a (Obj.putSet es' t')) a b ns:=by
 have hg:(h.update a (Obj.putSet es' t')).get? a=some { o with data:=.set es' (ep+1) t' }:=by
  have:=Heap.get?_update_self (Obj.putSet es' t') ho (by rw [putSet_of es' t' hd];rfl)
  rw [putSet_of es' t' hd] at this
  exact this
 exact ⟨hg,_,es',ep+1,t',hg,hex,rfl,hel,hf,ht,hp⟩
theorem zlJ {a:Addr} {b:Bool} {ns:List Int} {k:Int} {tk:Tok} {Q:Bool→Shared→Prop} (hS:SetB prog w s.heap a b ns) (room:ns.length+1<scanBound)
  (h:∀r h',Heap.SameBut a s.heap h'→SetB prog w h' a b (if k∈ns then ns else ns++[k])→Q r { s with heap:=h' }):wpAny (model prog w) A (setAddHashed a (.int k tk) ((intKind prog w).hash k)) Q E s:=by
 obtain ⟨o,es,ep,t,ho,hex,hd,hel,hf,ht,hp⟩:=hS
 have hsz:es.size=ns.length:=by rw [←Array.length_toList,←List.length_map (f:=kOf),hp.length_eq]
 have hkey:=intKind_is prog w k tk
 have hb:es.size<scanBound:=by omega
 unfold setAddHashed setAddHashedIn
 refine wpAny_holding (wpAny_bind (wpAny_setState_of ho hd hf ?_))
 dsimp only
 rw [byScan_of rfl hb hel]
 simp only [↓reduceIte]
 unfold setAddByScan
 refine wpAny_bind ?_
 refine wpAny_bind (wpAny_rule ?_)
 refine wpAny_bind (wpAny_setScan_of hkey ho hd hf hel ?_)
 cases hr:List.findIdx? (fun e=>(intKind prog w).is k e.2) es.toList with
 | some j=>
   dsimp only
   obtain ⟨hj,hpj,_⟩:=List.findIdx?_eq_some_iff_getElem.mp hr
   rw [zkM hel (List.getElem_mem hj)] at hpj
   have km:k∈ns:=hp.mem_iff.mp (List.mem_map.mpr ⟨_,List.getElem_mem hj,(of_decide_eq_true hpj).symm⟩)
   have z:=h false s.heap (Heap.SameBut.refl a s.heap)
   rw [if_pos km] at z
   exact wpAny_pure (wpAny_pure (z ⟨o,es,ep,t,ho,hex,hd,hel,hf,ht,hp⟩))
 | none=>
   dsimp only
   have km:k∉ns:=fun z=>by
    obtain ⟨e,he,ek⟩:=List.mem_map.mp (hp.mem_iff.mpr z)
    have:=List.findIdx?_eq_none_iff.mp hr e he
    rw [zkM hel he,decide_eq_true ek.symm] at this
    cases this
   rw [if_neg km] at h
   have hperm:=layNew_perm t es ((intKind prog w).hash k) (.int k tk)
   have hfits:=layNew_fits t es ((intKind prog w).hash k) (.int k tk)
   have hlay:=zmK ht es ((intKind prog w).hash k) (.int k tk)
   generalize layNew t es ((intKind prog w).hash k) (.int k tk)=L at hperm hfits hlay ⊢
   obtain ⟨es1,t1,wd,gave⟩:=L
   dsimp only at hperm hfits hlay ⊢
   rw [Array.toList_push] at hperm
   have hel1:ElemsOf (intKind prog w) es1.toList:=(hel.push hkey rfl).perm hperm
   have hp1:(es1.toList.map kOf).Perm (ns++[k]):=by
    refine (hperm.map kOf).trans ?_
    rw [List.map_append]
    exact hp.append (List.Perm.refl _)
   have hs1:es1.size=ns.length+1:=by rw [←Array.length_toList,←List.length_map (f:=kOf),hp1.length_eq,List.length_append];rfl
   have big:∀n,n<scanBound→n≤sizeLine:=fun n hn=>fits_of_scanBound hn
   have gw:∀(b:Bool) {s₁:Shared} {Q':Unit→Shared→Prop},Q' () s₁→wpAny (model prog w) A (match b with | true=>rule "set.scan.the-table-gave-way" | false=>pure ()) Q' E s₁:=
    fun b s₁ Q' hq=>by cases b<;>first | exact wpAny_pure hq | exact wpAny_rule hq
   refine wpAny_bind (gw _ ?_)
   have tail:∀t2:SetTable,t2.fits es1.size=true→TOk b t2→wpAny (model prog w) A (do
     storeSet a es1 t2
     if (!wd&&t2.tooFull)=true then do
         (match (relayAll t2 es1 (SetTable.grown es1.size)).2.2 with | true=>rule "set.scan.the-table-gave-way" | false=>pure ())
         storeSet a (relayAll t2 es1 (SetTable.grown es1.size)).1 (relayAll t2 es1 (SetTable.grown es1.size)).2.1
         pure (some true)
      else pure (some true)) (fun r s'=>∃x,r=some x∧Q x s') E s:=fun t2 f2 o2=>by
    refine wpAny_bind (wpAny_storeSet_of ho hd ?_ (big _ (by omega)))
    obtain ⟨ho1,hS1⟩:=SetB.put (prog:=prog) (w:=w) ho hex hd hel1 f2 o2 hp1
    have sb1:=Heap.SameBut.update s.heap a (Obj.putSet es1 t2)
    split
    ·have rp:=relayAll_perm t2 es1 (SetTable.grown es1.size)
     have rf:=relayAll_fits t2 es1 (SetTable.grown es1.size)
     have ro:=zj4 o2 es1 (SetTable.grown es1.size)
     generalize relayAll t2 es1 (SetTable.grown es1.size)=Rl at rp rf ro ⊢
     obtain ⟨es2,t3,g2⟩:=Rl
     dsimp only at rp rf ro ⊢
     have hs2:es2.size=es1.size:=by rw [←Array.length_toList,rp.length_eq,Array.length_toList]
     refine wpAny_bind (gw _ ?_)
     refine wpAny_bind (wpAny_storeSet_of ho1 rfl ?_ (big _ (by omega)))
     obtain ⟨_,hS2⟩:=SetB.put (prog:=prog) (w:=w) (es':=es2) (t':=t3) ho1 hex rfl (hel1.perm rp) rf ro ((rp.map kOf).trans hp1)
     exact wpAny_pure ⟨true,rfl,h true _ (sb1.trans (Heap.SameBut.update _ a _)) hS2⟩
    ·exact wpAny_pure ⟨true,rfl,h true _ sb1 hS1⟩
   split
   ·refine wpAny_bind ?_
    rw [hashByValue_scannable 8 rfl]
    refine wpAny_pure ?_
    refine wpAny_mono (tail _ ?_ ?_) (fun r s' z=>?_) fun _ _ e=>e
    ·split
     ·exact hfits
     ·exact SetTable.fits_plain_off hfits
    ·split
     ·exact hlay
     ·exact ⟨hlay.ri,hlay.du,hlay.le⟩
    ·obtain ⟨x,rfl,z⟩:=z
     exact wpAny_pure z
   ·refine wpAny_bind (wpAny_pure ?_)
    simp only [↓reduceIte]
    refine wpAny_mono (tail _ hfits hlay) (fun r s' z=>?_) fun _ _ e=>e
    obtain ⟨x,rfl,z⟩:=z
    exact wpAny_pure z
end
end L2
namespace L2
open PySem PySem.Spec PyProof.Rows
theorem zi2 (ns:List Int) (k:Int):step_dedup ns k=if k∈ns then ns else ns++[k]:=by
 unfold step_dedup
 by_cases c:k∈ns
 ·rw [if_pos c,if_pos (List.any_eq_true.mpr ⟨k,c,by simp⟩)]
 ·rw [if_neg c,if_neg]
  intro z
  obtain ⟨x,hx,e⟩:=List.any_eq_true.mp z
  have:x=k:=by simpa using e
  exact c (this▸hx)
section
variable {prog:Program} {w:World} {A:Around} {R:Result→Shared→Prop} {I:Addr} {fp wr:List Addr} {G:Array GenState→Array GenState→Prop} {n:Nat} {P:Nat→Value→Prop} {St:Nat→Shared→Prop}
theorem SetB.keep {h h':Heap} {a:Addr} {b:Bool} {ns:List Int} (hS:SetB prog w h a b ns) (k:∀o,h.get? a=some o→h'.get? a=some o):SetB prog w h' a b ns:=by
 obtain ⟨o,es,ep,t,ho,r⟩:=hS
 exact ⟨o,es,ep,t,k o ho,r⟩
theorem zj5 (W:WalksS prog w A.in1 I fp wr G n P St) (S:Addr) (hSf:S∉fp) (val:Nat→Int) (hval:∀i v,P i v→∃t,v=.int (val i) t) (hb:n+1<scanBound) (b:Bool):∀(k i:Nat) (s:Shared),n-i=k→i≤n→St i s→SetB prog w s.heap S b (firstMet val i)→
  (∀s',Moved (S::wr) G s s'→SetB prog w s'.heap S b (firstMet val n)→R (.ok (.ret .none)) s')→codeAny (model prog w) A (.builtin "set.update.loop" ⟨[.ref S,.ref I],[]⟩) R s:=by
 have hSw:S∉wr:=fun h=>hSf (W.sub _ h)
 have hsub:∀b∈wr,b∈S::wr:=fun b hb=>List.mem_cons_of_mem _ hb
 intro k
 induction k with
 | zero=>
   intro i s hk hi hst hS hR
   have hin:i=n:=by omega
   subst hin
   refine codeAny_builtin F.entry_set_update_loop ?_
   rw [Around.under_plainId F.plain_set_update_loop _]
   show wpAny _ A.in1 (pyNext (.ref I) >>= _) _ _ s
   refine wpAny_bind (W.done s _ _ hst fun s' hm=>?_)
   show wpAny _ A.in1 (ret Value.none) _ _ s'
   exact wpAny_pure (hR s' (hm.mono hsub) (hS.keep fun o ho=>hm.heap S _ hSw ho))
 | succ k ih=>
   intro i s hk hi hst hS hR
   have hlt:i<n:=by omega
   refine codeAny_builtin F.entry_set_update_loop ?_
   rw [Around.under_plainId F.plain_set_update_loop _]
   show wpAny _ A.in1 (pyNext (.ref I) >>= _) _ _ s
   refine wpAny_bind (W.item i s _ _ hlt hst fun v s' hP hst' hm=>?_)
   obtain ⟨t,rfl⟩:=hval i v hP
   have hS':=hS.keep (h':=s'.heap) fun o ho=>hm.heap S _ hSw ho
   show wpAny _ A.in1 (holding [Value.int (val i) t] (setAdd S (.int (val i) t)) >>= _) _ _ s'
   refine wpAny_bind (wpAny_holding ?_)
   unfold setAdd
   refine wpAny_holding ?_
   refine wpAny_bind ((intKind prog w).pyHash (k:=val i) (intKind_is _ _ _ _) ?_)
   have room:(firstMet val i).length+1<scanBound:=by have:=firstMet_length_le val i;omega
   refine zlJ (s := { s' with toks:=s'.toks+1 }) hS' room fun r h' hsb hS2=>?_
   rw [←zi2,←firstMet_succ] at hS2
   refine wpAny_pure ⟨plainId_quiet F.plain_set_update_loop _,ih (i+1) _ (by omega) hlt (W.frame _ s' _ _ hst' (Nat.le_succ _) fun b hb o e=>?_) hS2 fun s'' hm'' hS''=>?_⟩
   ·rw [hsb.2 b (fun h:b=S=>hSf (by rw [←h];exact hb))];exact e
   ·refine hR s'' (Moved.trans W.gtrans ((hm.mono hsub).then_heap (Nat.le_succ _) fun b o hb e=>?_) hm'') hS''
    rw [hsb.2 b (fun h:b=S=>hb (by rw [h];exact List.mem_cons_self))];exact e
end
section
variable {prog:Program} {w:World} {A:Around} {E:Value→Shared→Prop} {s:Shared}
def led0 (w:World):Bool := !w.params.followText "set-order"
theorem zlK (a:Value) {Q₁:Value→Shared→Prop} (h:Q₁ (.ref s.heap.objs.size) { s with heap:=s.heap.push { cls:=.type "set",dict:=none,data:=.set #[] 0 (.fresh 0 0 (led0 w)) } }):
  codeAny (model prog w) A (.call (.builtin "set.__new__") ⟨[.type "set",a],[]⟩) (wants Q₁ E) s:=by
 refine codeAny_of_tree ?_
 show wpAny _ A.in1 (do checkBuiltinCall "set.__new__" ⟨[.type "set",a],[]⟩;again (.builtin "set.__new__" ⟨[.type "set",a],[]⟩)) _ _ s
 refine wpAny_bind (wpAny_of_eq (F.newCall_set_1 a) (wpAny_pure ⟨plainId_quiet F.plain_set_new _,codeAny_builtin F.entry_set_new ?_⟩))
 rw [Around.under_plainId F.plain_set_new _]
 unfold Builtin.«set.__new__» Builtin.Frozenset.newClass
 have hsub:=sub_set_self
 obtain ⟨hp,g,d,tk,os⟩:=s
 dsimp only
 wp_walk
 refine wpAny_askSetting (wpAny_pure ?_)
 dsimp only
 simp only [newObj]
 refine wpAny_bind (wpAny_alloc (wpAny_pure ?_))
 exact wpAny_pure h
theorem zmL {l:Addr} {items:Array Value} {ns:List Int} {Q:Value→Shared→Prop}
  (hh:A.handled=none) (hl:s.heap.IsList l items) (hi:PyProof.Rows.IntsAre items.toList ns) (hb:items.size+1<scanBound)
  (h:∀(h':Heap) (tk:Nat),SetB prog w h' s.heap.objs.size (led0 w) (firstMet (fun i=>ns.getD i 0) items.size)→
    (∀b o,b<s.heap.objs.size→s.heap.get? b=some o→h'.get? b=some o)→Q (.ref s.heap.objs.size) { s with heap:=h',toks:=tk }):
  wpAny (model prog w) A (call (.type "set") [.ref l]) Q E s:=by
 obtain ⟨c,tl,hmro⟩:=F.called_set.mro
 have hmade:=F.called_set.made
 have hsub:=F.called_set.sub
 refine wpAny_call (codeAny_of_tree ?_)
 show wpAny _ _ (callAny (.type "set") _) _ _ _
 refine wpAny_pure ⟨Code.quiet_builtin _ (by decide +kernel),codeAny_builtin F.entry_type_call ?_⟩
 rw [Around.under_plain (weight_type_call_type "set" [.ref l] []) rfl]
 have h1:=F.called_set.notType
 have h2:=F.called_set.canCreate
 have hct:=F.typeCall_set_1 (.ref l)
 repeat (any_goals (first | assumption | wp_step))
 refine codeAny_mono (zlK (.ref l) (E:=E) (Q₁:=fun obj s₁=>obj=.ref s.heap.objs.size∧s₁ = { s with heap:=s.heap.push { cls:=.type "set",dict:=none,data:=.set #[] 0 (.fresh 0 0 (led0 w)) } }) ⟨rfl,rfl⟩) fun r s₁ hr=>?_
 cases r with
 | error e=>exact hr
 | ok fl=>
   cases fl with
   | ret obj=>
     obtain ⟨rfl,rfl⟩:=hr
     generalize hl0:led0 w=led at *
     have hS:(s.heap.push { cls:=.type "set",dict:=none,data:=.set #[] 0 (.fresh 0 0 led) }).get? s.heap.objs.size=some { cls:=.type "set",dict:=none,data:=.set #[] 0 (.fresh 0 0 led) }:=Heap.get?_push_size _ rfl
     have hT:Shared.TypeIs { s with heap:=s.heap.push { cls:=.type "set",dict:=none,data:=.set #[] 0 (.fresh 0 0 led) } } (.ref s.heap.objs.size) "set" := ⟨_,hS,rfl⟩
     have hli:=F.called_set.init.lookup
     have hbi:=F.called_set.init.bind (.ref s.heap.objs.size)
     repeat (any_goals (first | assumption | wp_step))
     refine codeAny_mono (codeAny_call_builtin (R:=wants (fun r s₂=>r=.none∧∃h' tk,s₂ = { s with heap:=h',toks:=tk }∧
      SetB prog w h' s.heap.objs.size led (firstMet (fun i=>ns.getD i 0) items.size)∧
      (∀b o,b<s.heap.objs.size→s.heap.get? b=some o→h'.get? b=some o)) E) F.called_set.init.plain F.entry_set_init (check_set_init_1 hT ?_)) fun r₂ s₂ hr₂=>?_
     ·obtain ⟨ol,hol,hcl,nl,hdl⟩:=hl
      obtain ⟨ocls,odict,odata,oslots⟩:=ol
      simp only at hcl hdl
      subst hcl;subst hdl
      have hol':(s.heap.push { cls:=.type "set",dict:=none,data:=.set #[] 0 (.fresh 0 0 led) }).get? l=some { cls:=.type "list",dict:=odict,data:=.seq items nl,slots:=oslots }:=Heap.get?_push_of_some _ hol
      have hsls:=F.sub_list_set
      have hslf:=F.sub_list_frozenset
      have hne:(Value.type "list" == Value.type "dict")=false:=by decide
      have hl1:(s.heap.push { cls:=.type "set",dict:=none,data:=.set #[] 0 (.fresh 0 0 led) }).IsList l items:=⟨_,hol',rfl,nl,rfl⟩
      unfold Builtin.«set.__init__» noKeywords Builtin.Frozenset.updateFrom
      generalize hPI:pyIter=PI
      wp_walk
      subst hPI
      refine wpAny_pyIter_list hl1 ?_
      refine wpAny_bind (wpAny_runValue ?_)
      have hlS:l<s.heap.objs.size:=Heap.lt_size hol
      have hh3:A.in1.in1.in1.handled=none:=by simp [hh]
      have hneI:l≠(s.heap.push { cls:=.type "set",dict:=none,data:=.set #[] 0 (.fresh 0 0 led) }).objs.size:=by
       rw [Heap.size_push];exact Nat.ne_of_lt (Nat.lt_succ_of_lt hlS)
      have hSf:s.heap.objs.size∉[(s.heap.push { cls:=.type "set",dict:=none,data:=.set #[] 0 (.fresh 0 0 led) }).objs.size,l]:=by
       rw [Heap.size_push];simp only [List.mem_cons,List.mem_singleton,List.not_mem_nil,or_false,not_or]
       exact ⟨Nat.ne_of_lt (Nat.lt_succ_self _),Nat.ne_of_gt hlS⟩
      have hval:∀(i:Nat) (v:Value),items[i]?=some v→∃t,v=.int ((fun i=>ns.getD i 0) i) t:=fun i v hv=>
       PyProof.Rows.IntsAre.int_at hi i v (by rw [Array.getElem?_toList];exact hv)
      refine zj5 ((Walks.list hh3 _ l hneI items).toS) s.heap.objs.size
       hSf (fun i=>ns.getD i 0) hval hb led (items.size-0) 0 _ (by omega) (Nat.zero_le _)
       ⟨⟨_,Heap.get?_push_size _ rfl,rfl,rfl⟩,(hl1.push _)⟩ ?hS0 ?hR
      case hS0=>
       have hget:((s.heap.push { cls:=.type "set",dict:=none,data:=.set #[] 0 (.fresh 0 0 led) }).push { cls:=.type "list_iterator",data:=.fields #[.ref l,.int 0 0] }).get? s.heap.objs.size
        = some { cls:=.type "set",dict:=none,data:=.set #[] 0 (.fresh 0 0 led) }:=Heap.get?_push_of_some _ hS
       exact ⟨_,#[],0,_,hget,⟨rfl,rfl,rfl⟩,rfl,fun e he=>by simp at he,rfl,⟨List.Pairwise.nil,rfl,rfl⟩,List.Perm.refl _⟩
      case hR=>
       intro s' hm hS'
       obtain ⟨h',g',d',tk',os'⟩:=s'
       have eg:g'=s.gens:=hm.gens
       have ed:d'=s.drawn:=hm.drawn
       have eo:os'=s.os:=hm.os
       subst eg;subst ed;subst eo
       show wpAny _ _ _ _ _ _
       refine wpAny_pure ?_
       show wpAny _ _ (ret Value.none) _ _ _
       refine wpAny_pure ⟨rfl,h',tk',rfl,hS',fun b o hb e=>?_⟩
       have hb1:b≠s.heap.objs.size:=Nat.ne_of_lt hb
       have hb2:b≠(s.heap.push { cls:=.type "set",dict:=none,data:=.set #[] 0 (.fresh 0 0 led) }).objs.size:=by
        rw [Heap.size_push];exact Nat.ne_of_lt (Nat.lt_succ_of_lt hb)
       exact hm.heap b o (by simp only [List.mem_cons,List.mem_singleton,List.not_mem_nil,or_false,not_or];exact ⟨hb1,hb2⟩) (Heap.get?_push_of_some _ (Heap.get?_push_of_some _ e))
     ·cases r₂ with
      | error e=>exact hr₂
      | ok fl₂=>
        cases fl₂ with
        | ret r=>
          obtain ⟨rfl,h',tk,rfl,hS',hk'⟩:=hr₂
          repeat (any_goals (first | assumption | wp_step))
          exact h _ _ hS' hk'
        | _=>exact hr₂.elim
   | _=>exact hr.elim
end
end L2
namespace L2
open PySem PySem.Spec PyProof.Rows
theorem zdl:Slot "set_iterator" "__next__" "set_iterator.__next__" :=
 .of (owner := "set_iterator") (n := "__next__") (by rw [typeLookup_type,builtinLookup_eq_fast];kernel_rfl) (by decide +kernel) (by decide +kernel) (by decide +kernel)
  (by first | exact .inl (by decide +kernel) | exact .inr (by decide +kernel)) (by rw [isSubtype_type];kernel_rfl)
theorem zj6:entryFor table "set_iterator.__next__" = some Builtin.«set_iterator.__next__» := entryFor_of_tree (by kernel_rfl)
theorem zlL (a:Value):argsOk "set_iterator.__next__" ⟨[a],[]⟩:=by unfold argsOk;kernel_rfl
theorem zi3:Slot "set_iterator" "__iter__" "set_iterator.__iter__" :=
 .of (owner := "set_iterator") (n := "__iter__") (by rw [typeLookup_type,builtinLookup_eq_fast];kernel_rfl) (by decide +kernel) (by decide +kernel) (by decide +kernel)
  (by first | exact .inl (by decide +kernel) | exact .inr (by decide +kernel)) (by rw [isSubtype_type];kernel_rfl)
theorem zj7:entryFor table "set.__iter__" = some Builtin.«frozenset.__iter__» :=
 entryFor_alias (id' := "frozenset.__iter__") (by kernel_rfl) rfl (by decide +kernel) (by kernel_rfl)
theorem zj8:entryFor table "set_iterator.__iter__" = some Builtin.«dict_keyiterator.__iter__» :=
 entryFor_alias (id' := "dict_keyiterator.__iter__") (by kernel_rfl) rfl (by decide +kernel) (by kernel_rfl)
theorem zlM (a:Value):argsOk "set_iterator.__iter__" ⟨[a],[]⟩:=by unfold argsOk;kernel_rfl
def zcM (first:Value) (i:Nat) (a:Addr) (n ep:Nat):Obj := { cls:=.type "set_iterator",data:=.fields #[first,rawInt i,.ref a,rawInt n,rawInt ep] }
section
variable {prog:Program} {w:World} {A:Around} {E:Value→Shared→Prop} {s:Shared}
theorem zhc {h:Heap} {I:Addr} {c:Value} {vs:Array Value} (hI:h.get? I=some { cls:=c,data:=.fields vs }) (k:Nat) (x:Value):(h.update I (Obj.mapFields (·.setIfInBounds k x))).get? I=some { cls:=c,data:=.fields (vs.setIfInBounds k x) }:=Heap.get?_update_self _ hI rfl
theorem ze6 {I a:Addr} {first:Value} {i ep e0:Nat} {o:Obj} {es:Array (Int × Value)} {t:SetTable} {Q:Option Value→Shared→Prop} (hI:s.heap.get? I=some (zcM first i a es.size ep)) (ho:s.heap.get? a=some o) (hd:o.data=.set es e0 t) (hf:t.fits es.size=true)
  (h:wpAny (model prog w) A.in1 (if let .int slot _:=first then do
     match ←setNext a slot.toNat i ep with
     | some (x,next)=>
       setField (.ref I) 0 (rawInt next)
       setField (.ref I) 1 (rawInt (i+1))
       ret x
     | none=>setField (.ref I) 2 .none;raiseNew (←newExc (.type "StopIteration") [])
    else do
     let some places ←seqItems? first | unsupported "internal:set_iterator"
     match places[i]? with
     | some (.int place _)=>
       let x ←setNextDrawn a place.toNat ep
       setField (.ref I) 1 (rawInt (i+1))
       ret x
     | some _=>unsupported "internal:set_iterator"
     | none=>setField (.ref I) 0 (rawInt 0);setField (.ref I) 2 .none;raiseNew (←newExc (.type "StopIteration") []))
    (fun fin s'=>∃v,fin=Fin.done (Flow.ret v)∧Q (some v) s') (fun e s'=>wpAny (model prog w) A (do if ←isInstance e (Value.type "StopIteration") then pure none else throw e) Q E s') s):wpAny (model prog w) A (pyNext (.ref I)) Q E s:=by
 have hT:s.TypeIs (.ref I) "set_iterator" := ⟨_,hI,rfl⟩
 unfold pyNext
 refine wpAny_bind (wpAny_attempt (wpAny_callSpecial?_slot (name:=Str.ofString "__next__") hT zdl (wpAny_call_entry zdl hT zj6 ?_ (zlL _))))
 unfold Builtin.«set_iterator.__next__» slotArgs
 simp only [List.isEmpty_nil,Bool.not_true,Bool.false_eq_true,↓reduceIte,bind_assoc,List.length_nil,bne_self_eq_false]
 refine wpAny_bind (wpAny_pure ?_)
 refine wpAny_bind (wpAny_fieldsOf hI rfl ?_)
 dsimp only [rawInt]
 refine wpAny_bind (wpAny_setEntries_of ho hd hf ?_)
 rw [if_neg (by simp)]
 refine wpAny_mono (Q:=fun fin s'=>∃v,fin=Fin.done (Flow.ret v)∧Q (some v) s') ?_ (fun fin s' z=>?_) fun _ _ e=>e
 ·simp only [Int.toNat_natCast]
  exact h
 ·obtain ⟨v,rfl,z⟩:=z
  exact ⟨v,rfl,wpAny_pure z⟩
theorem zhd {I a:Addr} {slot i ep e0:Nat} {x:Value} {nx:Nat} {o:Obj} {es:Array (Int × Value)} {t:SetTable} {Q:Option Value→Shared→Prop} (hI:s.heap.get? I=some (zcM (rawInt slot) i a es.size ep)) (ho:s.heap.get? a=some o) (hd:o.data=.set es e0 t) (hf:t.fits es.size=true)
  (hN:∀(A':Around) (E':Value→Shared→Prop) (Q':Option (Value × Nat)→Shared→Prop),Q' (some (x,nx)) s→wpAny (model prog w) A' (setNext a slot i ep) Q' E' s)
  (h:∀h',h'.get? I=some (zcM (rawInt nx) (i+1) a es.size ep)→Heap.SameBut I s.heap h'→Q (some x) { s with heap:=h' }):wpAny (model prog w) A (pyNext (.ref I)) Q E s:=by
 refine ze6 hI ho hd hf ?_
 dsimp only [rawInt]
 simp only [Int.toNat_natCast]
 refine wpAny_bind (hN _ _ _ ?_)
 dsimp only
 refine wpAny_bind (wpAny_setField hI rfl (by simp) ?_)
 have h1:=zhc hI 0 (.int nx 0)
 refine wpAny_bind (wpAny_setField h1 rfl (by simp) ?_)
 have h2:=zhc h1 1 (.int (i+1) 0)
 exact wpAny_pure ⟨x,rfl,h _ h2 ((Heap.SameBut.update ..).trans (Heap.SameBut.update ..))⟩
theorem zi4 {Q:Option Value→Shared→Prop} (hh:A.handled=none) (h:∀h',(∀b o,s.heap.get? b=some o→h'.get? b=some o)→Q none { s with heap:=h' }):wpAny (model prog w) A.in1 (do raiseNew (←newExc (.type "StopIteration") []))
  (fun fin s'=>∃v,fin=Fin.done (Flow.ret v)∧Q (some v) s') (fun e s'=>wpAny (model prog w) A (do if ←isInstance e (Value.type "StopIteration") then pure none else throw e) Q E s') s:=by
 refine wpAny_bind ?_
 simp only [newExc,newTuple]
 refine wpAny_bind (wpAny_newObj_type ?_ (by size_fits))
 refine wpAny_bind (m:=firstArgMember _ _) (wpAny_of_eq (a:=Value.none) (by first | rfl | (simp only [firstArgMember];rfl)) ?_)
 refine wpAny_newObj_type ?_ (by size_fits)
 simp only [raiseNew]
 refine wpAny_bind (wpAny_handled ?_)
 rw [show A.in1.handled=none from hh]
 refine wpAny_bind (wpAny_pure (wpAny_throw ?_))
 refine wpAny_bind (wpAny_isInstance (T := "StopIteration") (b:=true) ⟨_,Heap.get?_push_size _ rfl,rfl⟩ isSubtype_stop ?_)
 exact wpAny_pure (h _ fun b o e=>Heap.get?_push_of_some _ (Heap.get?_push_of_some _ e))
theorem zhe {I a:Addr} {slot i ep e0:Nat} {o:Obj} {es:Array (Int × Value)} {t:SetTable} {Q:Option Value→Shared→Prop} (hh:A.handled=none) (hI:s.heap.get? I=some (zcM (rawInt slot) i a es.size ep)) (ho:s.heap.get? a=some o) (hd:o.data=.set es e0 t) (hf:t.fits es.size=true)
  (hN:∀(A':Around) (E':Value→Shared→Prop) (Q':Option (Value × Nat)→Shared→Prop),Q' none s→wpAny (model prog w) A' (setNext a slot i ep) Q' E' s)
  (h:∀h',Heap.ExtBut I s.heap h'→Q none { s with heap:=h' }):wpAny (model prog w) A (pyNext (.ref I)) Q E s:=by
 refine ze6 hI ho hd hf ?_
 dsimp only [rawInt]
 simp only [Int.toNat_natCast]
 refine wpAny_bind (hN _ _ _ ?_)
 dsimp only
 refine wpAny_bind (wpAny_setField hI rfl (by simp) ?_)
 exact zi4 (s := { s with heap:=s.heap.update I (Obj.mapFields fun x=>x.setIfInBounds 2 Value.none) }) hh fun h' k=>h h' fun b o hb e=>k b o ((Heap.SameBut.update ..).extBut b o hb e)
def zdm (ps:List Nat):Obj := { cls:=.type "tuple",data:=.seq (ps.map fun (i:Nat)=>rawInt i).toArray }
theorem zj9 {I a tp:Addr} {i ep:Nat} {ps:List Nat} {j:Nat} {e:Int × Value} {o:Obj} {es:Array (Int × Value)} {t:SetTable} {Q:Option Value→Shared→Prop} (hI:s.heap.get? I=some (zcM (.ref tp) i a es.size ep)) (hp:s.heap.get? tp=some (zdm ps)) (ho:s.heap.get? a=some o) (hd:o.data=.set es ep t) (hf:t.fits es.size=true)
  (ej:ps[i]?=some j) (ee:es[j]?=some e)
  (h:∀h',h'.get? I=some (zcM (.ref tp) (i+1) a es.size ep)→Heap.SameBut I s.heap h'→Q (some e.2) { s with heap:=h' }):wpAny (model prog w) A (pyNext (.ref I)) Q E s:=by
 refine ze6 hI ho hd hf ?_
 dsimp only [rawInt]
 refine wpAny_bind (wpAny_seqItems hp rfl ?_)
 dsimp only
 have:(ps.map fun (i:Nat)=>rawInt i).toArray[i]?=some (rawInt j):=by
  rw [List.getElem?_toArray,List.getElem?_map,ej]
  rfl
 rw [this]
 dsimp only [rawInt]
 refine wpAny_bind ?_
 unfold setNextDrawn
 refine wpAny_bind (wpAny_setState_of ho hd hf ?_)
 dsimp only
 rw [if_neg (by simp)]
 simp only [Int.toNat_natCast]
 rw [ee]
 dsimp only
 refine wpAny_pure ?_
 refine wpAny_bind (wpAny_setField hI rfl (by simp) ?_)
 exact wpAny_pure ⟨e.2,rfl,h _ (zhc hI 1 (.int (i+1) 0)) (Heap.SameBut.update ..)⟩
theorem zka {I a tp:Addr} {i ep:Nat} {ps:List Nat} {o:Obj} {es:Array (Int × Value)} {t:SetTable} {Q:Option Value→Shared→Prop} (hh:A.handled=none) (hI:s.heap.get? I=some (zcM (.ref tp) i a es.size ep)) (hp:s.heap.get? tp=some (zdm ps)) (ho:s.heap.get? a=some o) (hd:o.data=.set es ep t) (hf:t.fits es.size=true)
  (ej:ps[i]?=none) (h:∀h',Heap.ExtBut I s.heap h'→Q none { s with heap:=h' }):wpAny (model prog w) A (pyNext (.ref I)) Q E s:=by
 refine ze6 hI ho hd hf ?_
 dsimp only [rawInt]
 refine wpAny_bind (wpAny_seqItems hp rfl ?_)
 dsimp only
 have:(ps.map fun (i:Nat)=>rawInt i).toArray[i]?=none:=by
  rw [List.getElem?_toArray,List.getElem?_map,ej]
  rfl
 rw [this]
 dsimp only
 refine wpAny_bind (wpAny_setField hI rfl (by simp) ?_)
 refine wpAny_bind (wpAny_setField (zhc hI 0 _) rfl (by simp) ?_)
 exact zi4 (s := { s with heap:=(s.heap.update I (Obj.mapFields fun x=>x.setIfInBounds 0 (rawInt 0))).update I (Obj.mapFields fun x=>x.setIfInBounds 2 Value.none) }) hh fun h' k=>h h' fun b o hb e=>k b o (((Heap.SameBut.update ..).trans (Heap.SameBut.update ..)).extBut b o hb e)
theorem zkN {a:Addr} {slot i ep:Nat} {o:Obj} {es:Array (Int × Value)} {t:SetTable} (ho:s.heap.get? a=some o) (hd:o.data=.set es ep t) (hf:t.fits es.size=true) (hb:w.params.followText "set-order" = true) {Q:Option (Value × Nat)→Shared→Prop}
  (h:Q (((pickOrder (w.params.setOrder a ep) es)[i]?).map fun e=>(e.2,slot)) s):wpAny (model prog w) A (setNext a slot i ep) Q E s:=by
 unfold setNext setsByText
 refine wpAny_bind (wpAny_setState_of ho hd hf ?_)
 dsimp only
 refine wpAny_bind (wpAny_bind (wpAny_askSetting (wpAny_pure ?_)))
 show wpAny _ _ (if w.params.followText "set-order" = true then _ else _) _ _ _
 rw [if_pos hb,if_neg (by simp)]
 refine wpAny_bind ?_
 unfold setWalk setsByText
 refine wpAny_bind (wpAny_setState_of ho hd hf ?_)
 dsimp only
 refine wpAny_bind (wpAny_bind (wpAny_askSetting (wpAny_pure ?_)))
 show wpAny _ _ (if w.params.followText "set-order" = true then _ else _) _ _ _
 rw [if_pos hb]
 refine wpAny_bind (wpAny_askSetting (wpAny_pure ?_))
 exact wpAny_pure h
theorem zkO {a:Addr} {slot i ep e0:Nat} {o:Obj} {es:Array (Int × Value)} {t:SetTable} (ho:s.heap.get? a=some o) (hd:o.data=.set es e0 t) (hf:t.fits es.size=true) (hb:w.params.followText "set-order" = false) (hl:t.led=true) (hp:(!t.plain&&decide (es.size > 1))=false) {Q:Option (Value × Nat)→Shared→Prop}
  (h:Q (match es[SetTable.below t.place slot]?,t.place[SetTable.below t.place slot]? with | some (_,x),some j=>some (x,j+1) | _,_=>none) s):wpAny (model prog w) A (setNext a slot i ep) Q E s:=by
 unfold setNext setsByText
 refine wpAny_bind (wpAny_setState_of ho hd hf ?_)
 dsimp only
 refine wpAny_bind (wpAny_bind (wpAny_askSetting (wpAny_pure ?_)))
 show wpAny _ _ (if w.params.followText "set-order" = true then _ else _) _ _ _
 rw [if_neg (by rw [hb];decide)]
 show wpAny _ _ (if (!t.plain&&decide (es.size > 1))=true then _ else _) _ _ _
 rw [if_neg (by rw [hp];decide)]
 have z:wpAny (model prog w) A (if (!t.led && !es.isEmpty)=true then unsupported "set:maker-not-led" else pure ()) (fun _ s'=>s'=s) E s:=by
  rw [hl]
  exact wpAny_pure rfl
 refine wpAny_bind (wpAny_mono z (fun _ s' e=>?_) fun _ _ e=>e)
 subst e
 exact wpAny_pure h
end
end L2
namespace L2
open PySem PySem.Spec PyProof.Rows PySem.W
theorem zkb {X:Cx} {pins:List (Addr × Obj)} {σ:St} {H:Hp} {s0:Shared} {Q:VK} {u:Value} {ns0:List Int} (hn0:ns0.length≤3000) (hnd0:ns0.Nodup)
  (col:∀(A':Around) (E':Value→Shared→Prop) (Q':List Value→Shared→Prop),A'.handled=X.A.handled→(∀its s' (ms:List Int),Inv X pins σ H s'→Vals (ms.map V.int) its→ms.Perm ns0→Q' its s')→wpAny (model X.prog X.w) A' (collect u) Q' E' s0)
  (h0:∀D H' (ms:List Int),Same H H'→H D=none→H' D=some (.lst (ms.map V.int))→ms.Perm ns0→ms.Pairwise (· < ·)→Q (.ref D) H'):wpAny (model X.prog X.w) X.A (call (.builtin "sorted") [u]) (EP X pins σ Q) X.xe s0:=by
 refine Calls.call_function_entry kind_sorted plain_sorted entry_sorted (args_sorted1 u) ?_
 unfold Builtin.«sorted»
 refine wpAny_bind (m:=checkCount "sorted" 1 1 _) (wpAny_pure (wpAny_bind (col _ _ _ rfl fun its s ns I rv pm0=>wpAny_bind (wpAny_newList ?_ (by have a1:=rv.length;have a2:=pm0.length_eq;have sl:(10000:Nat)≤sizeLine:=(by decide);rw [List.length_map] at a1;omega)))))
 have hn:ns.length≤3000:=by rw [pm0.length_eq];exact hn0
 have hnd:ns.Nodup:=pm0.nodup_iff.mpr hnd0
 generalize exs:ns.map V.int=xs at rv
 have xl:xs.length=ns.length:=by rw [←exs,List.length_map]
 have il:its.length=xs.length:=rv.length.symm
 have sl:(10000:Nat)≤sizeLine:=by decide
 have hi:IntsAre its ns:=zc9 (by rw [exs];exact rv)
 let kf:Nat→Int:=fun i=>ns.getD i 0
 have kat:∀i,i<ns.length→∃t,its[i]?=some (.int (kf i) t)∧xs[i]?=some (.int (kf i)):=fun i hi'=>by
  have e1:xs[i]?=some (.int (kf i)):=by
   rw [←exs,List.getElem?_map,List.getElem?_eq_getElem hi']
   show some (V.int ns[i])=some (V.int (ns.getD i 0))
   rw [List.getD_eq_getElem?_getD,List.getElem?_eq_getElem hi']
   rfl
  obtain ⟨u,hu,ru⟩:=rv.get e1
  obtain ⟨t,rfl⟩:=ru
  exact ⟨t,hu,e1⟩
 have T:Tot xs.length (fun i j=>decide (kf i<kf j)):=by
  refine ⟨fun i j _ _ h=>?_,fun i j hi hj ne h=>?_,fun i j k _ _ _ h1 h2=>?_⟩
  ·have:=of_decide_eq_true h
   exact decide_eq_false (by omega)
  ·have h1:=of_decide_eq_false h
   refine decide_eq_true ?_
   have:kf i≠kf j:=fun e=>ne (by
    have e1:ns[i]?=some (kf i):=by show _=some (ns.getD i 0);rw [List.getD_eq_getElem?_getD,List.getElem?_eq_getElem (show i<ns.length by omega)];rfl
    have e2:ns[j]?=some (kf i):=by rw [e];show _=some (ns.getD j 0);rw [List.getD_eq_getElem?_getD,List.getElem?_eq_getElem (show j<ns.length by omega)];rfl
    exact zj3 hnd e1 e2)
   omega
  ·have:=of_decide_eq_true h1
   have:=of_decide_eq_true h2
   exact decide_eq_true (by omega)
 have h:∀D H' (p:List Nat),Same H H'→H D=none→H' D=some (.lst (p.map fun i=>xs.getD i .non))→p.Perm (List.range xs.length)→(∀i j,i<j→j<p.length→decide (kf (p.getD i 0)<kf (p.getD j 0))=true)→Q (.ref D) H':=fun D H' p sm nD hD pp ps=>by
  have pm:∀i,i∈p→i<ns.length:=fun i hi=>by
   have:=List.mem_range.mp (pp.mem_iff.mp hi)
   omega
  have em:(p.map fun i=>xs.getD i .non)=(p.map kf).map V.int:=by
   rw [List.map_map]
   refine List.map_congr_left fun i hi=>?_
   obtain ⟨t,_,e⟩:=kat i (pm i hi)
   rw [List.getD_eq_getElem?_getD,e]
   rfl
  refine h0 D H' (p.map kf) sm nD (by rw [hD,em]) ?_ ?_
  ·refine (pp.map kf).trans (List.Perm.trans (List.Perm.of_eq ?_) pm0)
   refine List.ext_getElem? fun i=>?_
   rw [List.getElem?_map]
   by_cases z:i<ns.length
   ·rw [List.getElem?_range (by omega),List.getElem?_eq_getElem z]
    show some (ns.getD i 0)=_
    rw [List.getD_eq_getElem?_getD,List.getElem?_eq_getElem z]
    rfl
   ·rw [List.getElem?_eq_none (by simp;omega),List.getElem?_eq_none (by omega)]
    rfl
  ·rw [List.pairwise_map,List.pairwise_iff_getElem]
   intro i j hi hj ij
   have:=of_decide_eq_true (ps i j ij hj)
   rw [List.getD_eq_getElem?_getD,List.getD_eq_getElem?_getD,List.getElem?_eq_getElem hi,List.getElem?_eq_getElem hj] at this
   exact this
 have kA:∀b o,s.heap.get? b=some o→s.heap.get? b=some o:=fun b o e=>e
 dsimp only
 have hD:(s.heap.push (seqObj "list" its.toArray 0)).get? s.heap.objs.size=some (seqObj "list" its.toArray 0):=Heap.get?_push_size _ rfl
 generalize eD:s.heap.objs.size=D at hD ⊢
 have sA:s.heap.objs.size≤D:=Nat.le_of_eq eD
 have kB:∀b o,s.heap.get? b=some o→(s.heap.push (seqObj "list" its.toArray 0)).get? b=some o:=fun b o e=>Heap.get?_push_of_some _ (kA b o e)
 generalize s.heap.push (seqObj "list" its.toArray 0)=A2 at hD kB ⊢
 refine wpAny_bind (wpAny_holding (wpAny_call_entry slot_list_sort ⟨_,hD,rfl⟩ entry_list_sort ?body (args_list_sort (.ref D))))
 case body=>
  rw [list_sort_plain D]
  refine wpAny_bind (listItems_at hD rfl (wpAny_bind (listUpdate_at hD rfl ?_ (by rw [List.size_toArray];omega) (Nat.zero_le _))))
  obtain ⟨e1,hD1⟩:∃e1,(A2.update D (Obj.mapSeq fun _=>(#[]:Array Value))).get? D=some (seqObj "list" #[] e1):=⟨_,get?_update_seq hD fun _ => #[]⟩
  have kC:∀b o,s.heap.get? b=some o→(A2.update D (Obj.mapSeq fun _=>(#[]:Array Value))).get? b=some o:=fun b o e=>by
   rw [Heap.get?_update_ne _ _ _ _ (Nat.ne_of_lt (Nat.lt_of_lt_of_le (Heap.lt_size e) sA))]
   exact kB b o e
  dsimp only
  refine wpAny_bind (seqEpoch_at hD1 rfl (wpAny_bind (wpAny_newTuple ?_ (by show its.length≤sizeLine;omega))))
  refine wpAny_bind (wpAny_newList (wpAny_holding ?_) (Nat.zero_le _))
  dsimp only
  generalize A2.update D (Obj.mapSeq fun _=>(#[]:Array Value))=A3 at hD1 kC ⊢
  have hD3:=Heap.get?_push_of_some (seqObj "list" #[] 0) (Heap.get?_push_of_some (seqObj "tuple" its.toArray 0) hD1)
  have kF:∀b o,s.heap.get? b=some o→((A3.push (seqObj "tuple" its.toArray 0)).push (seqObj "list" #[] 0)).get? b=some o:=fun b o e=>Heap.get?_push_of_some _ (Heap.get?_push_of_some _ (kC b o e))
  have nD:H D=none:=I.hok.fresh sA
  have fD:=I.fpOk (H':=H) sA nD
  have I0:Inv X pins σ H { s with heap:=(A3.push (seqObj "tuple" its.toArray 0)).push (seqObj "list" #[] 0) }:=I.kept (t':=s.toks) kF
  show wpAny (model X.prog X.w) X.A.in1.in1 _ _ _ { s with heap:=(A3.push (seqObj "tuple" its.toArray 0)).push (seqObj "list" #[] 0) }
  generalize (A3.push (seqObj "tuple" its.toArray 0)).push (seqObj "list" #[] 0)=A5 at hD3 kF I0 ⊢
  have fin:∀(p:List Nat),p.Perm (List.range xs.length)→(∀i j,i<j→j<p.length→decide (kf (p.getD i 0)<kf (p.getD j 0))=true)→
    EP X pins σ Q (.ref D) { s with heap:=A5.update D (Obj.mapSeq fun _=>List.toArray (p.map fun i=>its.getD i Value.none)) }:=by
   intro p hp hs
   have pl2:p.length=xs.length:=by simpa using hp.length_eq
   obtain ⟨c2,hc2⟩:∃c2,(A5.update D (Obj.mapSeq fun _=>List.toArray (p.map fun i=>its.getD i Value.none))).get? D=some (seqObj "list" (List.toArray (p.map fun i=>its.getD i Value.none)) c2):=⟨_,get?_update_seq hD3 fun _=>List.toArray (p.map fun i=>its.getD i Value.none)⟩
   have sb:=Heap.SameBut.update A5 D (Obj.mapSeq fun _=>List.toArray (p.map fun i=>its.getD i Value.none))
   have kp:∀b o,b≠D→A5.get? b=some o→(A5.update D (Obj.mapSeq fun _=>List.toArray (p.map fun i=>its.getD i Value.none))).get? b=some o:=fun b o n g=>(sb.2 b n).trans g
   have trk:∀b u,H b=some u→b≠D:=fun b u g z=>by rw [z,nD] at g;cases g
   have sm:Same H (upd H D (.lst (p.map fun i=>xs.getD i .non))):=fun b u g=>by rw [zap (trk b u g)];exact g
   refine ⟨.ref D,upd H D (.lst (p.map fun i=>xs.getD i .non)),?_,rfl,h D _ p sm nD zar hp hs⟩
   refine Inv.step (s := { s with heap:=A5 }) (g':=s.gens) (d':=s.drawn) (t':=s.toks) (ch:=[D]) I0 (fun b hb=>?_) (fun b o _ _ hc g _=>kp b o (fun z=>hc (by simp [z])) g) (fun b o _ _ hc g _=>⟨o.slots,kp b o (fun z=>hc (by simp [z])) g⟩) (fun b o hc _ n=>?_) (fun b o hc g=>⟨o,kp b o (fun z=>hc (by simp [z])) g⟩)
    (fun b ys g=>sm b _ g) (fun b o u g=>sm b _ g) (fun b lp lq g=>sm b _ g) (fun mm hm=>?_) (fun b u g=>?_) I0.bare
   ·have:b=D:=by simpa using hb
    subst this
    exact ⟨fD.2.2.2.1,fD.2.1,fD.2.2.2.2.1,fD.2.2.2.2.2⟩
   ·rw [zap (fun z=>hc (by simp [z]))]
    exact n
   ·obtain ⟨o,es,ep,g,r⟩:=hm
    exact ⟨o,es,ep,kp _ o (Ne.symm fD.2.1) g,r⟩
   ·by_cases z:b=D
    ·subst z
     rw [zar] at g
     cases g
     refine ⟨by rw [List.length_map,pl2];omega,_,c2,zd4 rv p fun i hi=>List.mem_range.mp (hp.mem_iff.mp hi),hc2⟩
    ·rw [zap z] at g
     refine (I0.hok b u g).stay (fun d v hd q=>kp d v ?_ q) (fun d q=>sm d _ q) (fun d ys q=>sm d _ q) fun d ob ys q=>sm d _ q
     rcases hd with y | y
     ·rw [y];exact trk b u g
     ·exact trk d _ y
  have tail:∀(st:SortSt) (p:List Nat),failedOf st=none→(arrOf st).map (·.2)=List.toArray (p.map fun i=>its.getD i Value.none)→p.Perm (List.range xs.length)→(∀i j,i<j→j<p.length→decide (kf (p.getD i 0)<kf (p.getD j 0))=true)→(p.map fun i=>its.getD i Value.none).length=its.length:=fun st p _ _ hp _=>by
   rw [List.length_map]
   have:=hp.length_eq
   simp at this
   omega
  by_cases n2:its.toArray.size<2
  ·rw [if_pos n2,if_pos n2]
   refine wpAny_bind (wpAny_pure ?_)
   rw [StateT.run_pure]
   refine wpAny_bind (wpAny_pure ?_)
   dsimp only
   rw [List.size_toArray] at n2
   have hout:(arrOf (SortSt.mk' general' (its.toArray.zip its.toArray) #[] 7 none)).map (·.2)=List.toArray ((List.range xs.length).map fun i=>its.getD i Value.none):=by
    show ((List.toArray its).zip its.toArray).map (·.2)=_
    rw [←il,zkC]
    apply Array.toList_inj.mp
    rw [Array.toList_map,ksk_zip]
    exact List.map_snd_zip (by simp)
   rw [hout]
   refine wpAny_bind (seqEpoch_at hD3 rfl (wpAny_bind (listUpdate_at hD3 rfl ?_ (Nat.zero_le _) (by simp;omega))))
   simp only [bne_self_eq_false,Bool.false_eq_true,if_false]
   refine wpAny_pure ⟨_,rfl,wpAny_pure ⟨_,rfl,fin (List.range xs.length) (List.Perm.refl _) fun i j ij jl=>?_⟩⟩
   rw [List.length_range] at jl
   omega
  ·rw [if_neg n2,if_neg n2]
   rw [List.size_toArray] at n2
   obtain ⟨v1,v2,vs',ev⟩:∃v1 v2 vs',its=v1::v2::vs':=by
    match its,n2 with
    | v1::v2::vs',_=>exact ⟨v1,v2,vs',rfl⟩
    | [_],h=>simp at h
    | [],h=>simp at h
   have ek:keyKind' its.toArray=pure oneType':=by
    rw [ev]
    exact keyKind_ints (ns:=ns) (by rw [←ev];exact hi)
   rw [ek]
   refine wpAny_bind (wpAny_pure ?_)
   have inj:∀i j,i<its.length→j<its.length→its.getD i Value.none=its.getD j Value.none→i=j:=fun i j hi hj e=>by
    obtain ⟨t,h1,_⟩:=kat i (by omega)
    obtain ⟨t',h1',_⟩:=kat j (by omega)
    rw [List.getD_eq_getElem?_getD,List.getD_eq_getElem?_getD,h1,h1'] at e
    have ee:kf i=kf j:=by injection e
    by_cases z:i=j
    ·exact z
    ·have:=T.tot i j (by omega) (by omega) z (decide_eq_false (by omega))
     have:=of_decide_eq_true this
     omega
   refine wpAny_bind (wpAny_mono (zlI (its:=its) (lt:=fun i j=>decide (kf i<kf j)) (by omega) (by rw [il];exact T) inj fun i j C hi hj hC=>by
    obtain ⟨t,h1,_⟩:=kat i (by omega)
    obtain ⟨t',h1',_⟩:=kat j (by omega)
    unfold kas_ask
    rw [List.getD_eq_getElem?_getD,List.getD_eq_getElem?_getD,h1,h1']
    exact kat_lt_int hC) ?_ fun _ _ z=>z)
   rw [il]
   ·rintro ⟨⟨⟩,st'⟩ s'' ⟨p,har,hf,rfl,P,S⟩
    have hs:∀i j,i<j→j<p.toList.length→decide (kf (p.toList.getD i 0)<kf (p.toList.getD j 0))=true:=fun i j ij jl=>by
     have e2:∀k,p.toList.getD k 0=p.getD k 0:=fun k=>by rw [List.getD_eq_getElem?_getD,atq];simp
     rw [e2,e2]
     exact S i j ij (by rw [Array.length_toList,P.sz] at jl;exact jl)
    have hout:=kat_snds (ks:=its) (vs:=its) rfl har
    have lo:=tail st' p.toList hf hout P.pm hs
    dsimp only
    rw [hout]
    refine wpAny_bind (seqEpoch_at hD3 rfl (wpAny_bind (listUpdate_at hD3 rfl ?_ (Nat.zero_le _) (by rw [List.size_toArray,lo];omega))))
    rw [hf]
    simp only [bne_self_eq_false,Bool.false_eq_true,if_false]
    exact wpAny_pure ⟨_,rfl,wpAny_pure ⟨_,rfl,fin p.toList P.pm hs⟩⟩
end L2
namespace L2
open PySem PySem.Spec PyProof.Rows
theorem zdn {α:Type}:∀ {xs:List α} {i:Nat} {x : α},xs[i]?=some x→(x::xs.eraseIdx i).Perm xs
 | [],i,x,h=>by simp at h
 | y::xs,0,x,h=>by
   cases h
   exact List.Perm.refl _
 | y::xs,i+1,x,h=>by
   rw [List.getElem?_cons_succ] at h
   rw [List.eraseIdx_cons_succ]
   exact (List.Perm.swap y x _).trans ((zdn h).cons y)
theorem zkP {α:Type} (next:Nat→Nat):∀(fuel k:Nat) (left:List α) (out:Array α),left.length=fuel→(pickOrder.go next fuel k left out).toList.Perm (out.toList++left)
 | 0,k,left,out,h=>by
   rw [List.length_eq_zero_iff.mp h,List.append_nil]
   exact List.Perm.refl _
 | fuel+1,k,left,out,h=>by
   unfold pickOrder.go
   have lt:next k % left.length<left.length:=Nat.mod_lt _ (by omega)
   rw [List.getElem?_eq_getElem lt]
   dsimp only
   refine (zkP next fuel (k+1) _ _ (by rw [List.length_eraseIdx_of_lt lt,h];rfl)).trans ?_
   rw [Array.toList_push,List.append_assoc]
   exact List.Perm.append_left _ (zdn (List.getElem?_eq_getElem lt))
theorem zlN {α:Type} (next:Nat→Nat) (xs:Array α):(pickOrder next xs).toList.Perm xs.toList:=by
 have:=zkP next xs.size 0 xs.toList #[] (by simp)
 unfold pickOrder
 simpa using this
section
variable {prog:Program} {w:World} {A:Around} {E:Value→Shared→Prop} {s:Shared}
theorem zi5 {α:Type}:∀(n:Nat) (xs:List α) (s:Shared) {Q:List α→Shared→Prop},xs.length≤n→(∀ys d,ys.Perm xs→Q ys { s with drawn:=d })→wpAny (model prog w) A (drawOrder n xs) Q E s
 | 0,xs,s,Q,h,q=>by
   have:xs=[]:=List.length_eq_zero_iff.mp (by omega)
   subst this
   exact wpAny_pure (q [] s.drawn (List.Perm.refl _))
 | n+1,[],s,Q,h,q=>wpAny_pure (q [] s.drawn (List.Perm.refl _))
 | n+1,x::xs,s,Q,h,q=>by
   unfold drawOrder
   refine wpAny_bind ?_
   have lt:w.draws .order (s.drawn.get .order) % (x::xs).length<(x::xs).length:=Nat.mod_lt _ (by simp)
   refine fun Γ p hΓ => ⟨by simp,?_⟩
   revert Γ p hΓ
   show wpAny (model prog w) A (pure (w.draws .order (s.drawn.get .order) % (x::xs).length)) _ E { s with drawn:=s.drawn.bump .order }
   refine wpAny_pure ?_
   rw [List.getElem?_eq_getElem lt]
   dsimp only
   refine wpAny_bind (zi5 n _ { s with drawn:=s.drawn.bump .order } (by rw [List.length_eraseIdx_of_lt lt];simp only [List.length_cons] at *;omega) fun ys d hp=>wpAny_pure (q _ d ?_))
   exact (hp.cons _).trans (zdn (List.getElem?_eq_getElem lt))
theorem zlO {I:Addr} {Q:Value→Shared→Prop} (hT:s.TypeIs (.ref I) "set_iterator") (h:Q (.ref I) s):wpAny (model prog w) A (pyIter (.ref I)) Q E s:=by
 refine wpAny_pyIter_slot hT zi3 (wpAny_call_entry zi3 hT zj8 ?_ (zlM _))
 show wpAny _ _ (ret (.ref I)) _ _ s
 exact wpAny_pure ⟨_,rfl,"set_iterator",_,hT,zdl.lookup,h⟩
theorem zed {I:Addr} {n:Nat} {vs:List Value} {St:Nat→Heap→Prop} {fp:List Addr} (hI:I∈fp) (ln:vs.length=n)
  (ty:∀i (s:Shared),St i s.heap→s.TypeIs (.ref I) "set_iterator")
  (fr:∀i h h',St i h→(∀b∈fp,∀o,h.get? b=some o→h'.get? b=some o)→St i h')
  (it:∀i (s:Shared) (Q:Option Value→Shared→Prop) (E:Value→Shared→Prop) v,vs[i]?=some v→St i s.heap→(∀h',St (i+1) h'→Heap.SameBut I s.heap h'→Q (some v) { s with heap:=h' })→wpAny (model prog w) A (pyNext (.ref I)) Q E s)
  (dn:∀(s:Shared) (Q:Option Value→Shared→Prop) (E:Value→Shared→Prop),St n s.heap→(∀h',Heap.ExtBut I s.heap h'→Q none { s with heap:=h' })→wpAny (model prog w) A (pyNext (.ref I)) Q E s):
  Walks prog w A I fp [I] n (fun i v=>vs[i]?=some v) St where
 sub:=fun b hb=>by
  have:b=I:=by simpa using hb
  subst this
  exact hI
 frame:=fr
 item:=fun i s Q E hi st hQ=>by
  have il:i<vs.length:=by omega
  exact it i s Q E vs[i] (List.getElem?_eq_getElem il) st fun h' st' sb=>hQ _ h' s.toks (List.getElem?_eq_getElem il) st' fun b o hb e=>sb.extBut b o (fun z=>hb (by simp [z])) e
 done:=fun s Q E st hQ=>dn s Q E st fun h' sb=>hQ h' s.toks fun b o hb e=>sb b o (fun z=>hb (by simp [z])) e
 self:=fun i s Q E st hQ=>zlO (ty i s st) hQ
end
end L2
namespace L2
open PySem PySem.Spec PyProof.Rows
def zdz (t:SetTable) (i:Nat):Nat:=if i=0 then 0 else t.place.getD (i-1) 0+1
theorem zeK {b:Bool} {t:SetTable} (h:TOk b t) {i:Nat} (hi:i≤t.place.size):SetTable.below t.place (zdz t i)=i:=by
 obtain ⟨p0,p1,p2⟩:=zhb (j:=zdz t i) h.ri
 generalize SetTable.below t.place (zdz t i)=p at p0 p1 p2 ⊢
 unfold zdz at p1 p2
 by_cases c:i=0
 ·subst c
  rw [if_pos rfl] at p1
  by_cases z:p=0
  ·exact z
  ·have:=p1 0 _ (by omega) (Array.getElem?_eq_getElem (by omega))
   omega
 ·rw [if_neg c] at p1 p2
  have l1:i-1<t.place.size:=by omega
  have e1:t.place[i-1]?=some t.place[i-1]:=Array.getElem?_eq_getElem l1
  have g1:t.place.getD (i-1) 0=t.place[i-1]:=by simp [Array.getD,l1]
  rw [g1] at p1 p2
  have a1:i≤p:=by
   refine Nat.le_of_not_lt fun z=>?_
   have:=p2 (i-1) _ (by omega) e1
   omega
  refine Nat.le_antisymm (Nat.le_of_not_lt fun z=>?_) a1
  have l2:i<t.place.size:=by omega
  have:=p1 i _ z (Array.getElem?_eq_getElem l2)
  have lt:=(List.pairwise_iff_getElem.mp h.ri) (i-1) i (by simpa using l1) (by simpa using l2) (by omega)
  rw [Array.getElem_toList,Array.getElem_toList] at lt
  omega
section
variable {prog:Program} {w:World} {A:Around} {E:Value→Shared→Prop} {s:Shared}
structure SetWk (prog:Program) (w:World) (s s1:Shared) (a I:Addr) (fp:List Addr) (n:Nat) (vs:List Value) (St:Nat→Heap→Prop):Prop where
 wk:∀A':Around,A'.handled=none→Walks prog w A' I fp [I] n (fun i v=>vs[i]?=some v) St
 at0:St 0 s1.heap
 lt:∀b∈fp,b<s1.heap.objs.size
 inI:I∈fp
 kp:∀b o,s.heap.get? b=some o→s1.heap.get? b=some o
 ge:∀b∈fp,b=a∨s.heap.objs.size≤b
 sm:s1 = { s with heap:=s1.heap,drawn:=s1.drawn }
 gI:s.heap.objs.size≤I
theorem zkc {a:Addr} {o:Obj} {es:Array (Int × Value)} {ep:Nat} {t:SetTable} (ho:s.heap.get? a=some o) (hx:o.ExactSet) (hd:o.data=.set es ep t) (hf:t.fits es.size=true) (ht:TOk (led0 w) t) (big:es.size≤sizeLine) {Q:Value→Shared→Prop}
  (q:∀I s1 fp vs St,SetWk prog w s s1 a I fp es.size vs St→vs.Perm (es.toList.map (·.2))→Q (.ref I) s1):wpAny (model prog w) A (pyIter (.ref a)) Q E s:=by
 have hT:s.TypeIs (.ref a) "set" := ⟨o,ho,hx.1⟩
 have ps:t.place.size=es.size:=by
  simp only [SetTable.fits,Bool.and_eq_true,beq_iff_eq] at hf
  exact hf.1
 refine wpAny_pyIter_slot hT F.slot_set_iter (wpAny_call_entry F.slot_set_iter hT zj7 ?_ (F.args_set_iter_1 _))
 unfold Builtin.«frozenset.__iter__» Builtin.Frozenset.slot0 slotArgs
 simp only [List.isEmpty_nil,Bool.not_true,Bool.false_eq_true,↓reduceIte,bind_assoc,List.length_nil,bne_self_eq_false]
 unfold Builtin.Frozenset.addrOf Builtin.Frozenset.sizeOf
 refine wpAny_bind (wpAny_pure ?_)
 dsimp only
 refine wpAny_bind (wpAny_pure ?_)
 refine wpAny_bind (wpAny_bind (wpAny_setEntries_of ho hd hf (wpAny_pure ?_)))
 unfold setDrawn setsByText
 refine wpAny_bind (wpAny_bind (wpAny_setState_of ho hd hf ?_))
 dsimp only
 refine wpAny_bind (wpAny_bind (wpAny_askSetting (wpAny_pure ?_)))
 refine wpAny_pure ?_
 show wpAny _ _ (if (!w.params.followText "set-order" && (!t.plain&&decide (es.size > 1)))=true then _ else _) _ _ _
 by_cases bt:w.params.followText "set-order" = true
 ·rw [if_neg (by rw [bt];simp)]
  refine wpAny_bind (wpAny_pure ?_)
  refine wpAny_bind (wpAny_setEpoch_of ho hd hf ?_)
  refine wpAny_bind (wpAny_newObj_type (wpAny_pure ⟨_,rfl,"set_iterator",_,⟨_,Heap.get?_push_size _ rfl,rfl⟩,zdl.lookup,?_⟩))
  have al:=Heap.lt_size ho
  have pp:=zlN (w.params.setOrder a ep) es
  have sz:(pickOrder (w.params.setOrder a ep) es).size=es.size:=by rw [←Array.length_toList,pp.length_eq,Array.length_toList]
  refine q _ _ [s.heap.objs.size,a] ((pickOrder (w.params.setOrder a ep) es).toList.map (·.2)) (fun i h=>h.get? s.heap.objs.size=some (zcM (rawInt (0:Nat)) i a es.size ep)∧h.get? a=some o) ⟨fun A' hh=>?_,⟨Heap.get?_push_size _ rfl,Heap.get?_push_of_some _ ho⟩,fun b hb=>?_,by simp,fun b o e=>Heap.get?_push_of_some _ e,fun b hb=>?_,rfl,Nat.le_refl _⟩ (pp.map _)
  ·refine zed (by simp) (by rw [List.length_map,Array.length_toList,sz]) (fun i s st=>⟨_,st.1,rfl⟩) (fun i h h' st k=>⟨k _ (by simp) _ st.1,k _ (by simp) _ st.2⟩) (fun i s Q E v hv st hQ=>?_) fun s Q E st hQ=>?_
   ·refine zhd st.1 st.2 hd hf (fun A' E' Q' z=>zkN st.2 hd hf bt ?_) fun h' g sb=>hQ h' ⟨g,sb.extBut _ _ (Nat.ne_of_lt al) st.2⟩ sb
    ·rw [List.getElem?_map,Array.getElem?_toList] at hv
     cases e:(pickOrder (w.params.setOrder a ep) es)[i]? with
     | none=>rw [e] at hv;cases hv
     | some y=>
       rw [e] at hv
       cases hv
       exact z
   ·refine zhe hh st.1 st.2 hd hf (fun A' E' Q' z=>zkN st.2 hd hf bt ?_) hQ
    rw [Array.getElem?_eq_none (by omega)]
    exact z
  ·show b<(s.heap.push (zcM (rawInt (0:Nat)) 0 a es.size ep)).objs.size
   have hz:(s.heap.push (zcM (rawInt (0:Nat)) 0 a es.size ep)).objs.size=s.heap.objs.size+1:=size_push' _ _
   rw [hz]
   simp at hb
   rcases hb with rfl | rfl
   ·exact Nat.lt_succ_self _
   ·exact Nat.lt_succ_of_lt al
  ·have hb:b=s.heap.objs.size∨b=a:=by simpa using hb
   rcases hb with rfl | rfl
   ·exact .inr (Nat.le_refl _)
   ·exact .inl rfl
 ·have bt:w.params.followText "set-order" = false:=by simpa using bt
  have led:t.led=true:=by
   rw [ht.le]
   unfold led0
   rw [bt]
   rfl
  rw [bt]
  by_cases dr:(!t.plain&&decide (es.size > 1))=true
  ·rw [if_pos (by rw [dr];rfl)]
   refine wpAny_bind (zi5 es.size (List.range es.size) s (by simp) fun ys d yp=>?_)
   refine wpAny_bind (wpAny_newTuple ?_ (by rw [List.length_map,yp.length_eq,List.length_range];exact big))
   have ho1:(s.heap.push (zdm ys)).get? a=some o:=Heap.get?_push_of_some _ ho
   refine wpAny_bind (wpAny_setEpoch_of ho1 hd hf ?_)
   refine wpAny_bind (wpAny_newObj_type (wpAny_pure ⟨_,rfl,"set_iterator",_,⟨_,Heap.get?_push_size _ rfl,rfl⟩,zdl.lookup,?_⟩))
   have al:=Heap.lt_size ho
   have e1:(s.heap.push (zdm ys)).objs.size=s.heap.objs.size+1:=size_push' _ _
   have aI:a<(s.heap.push (zdm ys)).objs.size:=by rw [e1];exact Nat.lt_succ_of_lt al
   have pI:s.heap.objs.size<(s.heap.push (zdm ys)).objs.size:=by rw [e1];exact Nat.lt_succ_self _
   have yl:ys.length=es.size:=by rw [yp.length_eq,List.length_range]
   have ym:∀(i j:Nat),ys[i]?=some j→j<es.size:=fun i j h=>List.mem_range.mp (yp.mem_iff.mp (List.mem_of_getElem? h))
   refine q _ _ [(s.heap.push (zdm ys)).objs.size,a,s.heap.objs.size] (ys.map fun j=>(es.getD j (0,.none)).2) (fun i h=>h.get? (s.heap.push (zdm ys)).objs.size=some (zcM (.ref s.heap.objs.size) i a es.size ep)∧h.get? s.heap.objs.size=some (zdm ys)∧h.get? a=some o) ⟨fun A' hh=>?_,⟨Heap.get?_push_size _ rfl,Heap.get?_push_of_some _ (Heap.get?_push_size _ rfl),Heap.get?_push_of_some _ ho1⟩,fun b hb=>?_,by simp,fun b o e=>Heap.get?_push_of_some _ (Heap.get?_push_of_some _ e),fun b hb=>?_,rfl,Nat.le_of_lt pI⟩ ?_
   ·refine zed (by simp) (by rw [List.length_map,yl]) (fun i s st=>⟨_,st.1,rfl⟩) (fun i h h' st k=>⟨k _ (by simp) _ st.1,k _ (by simp) _ st.2.1,k _ (by simp) _ st.2.2⟩) (fun i s Q E v hv st hQ=>?_) fun s Q E st hQ=>?_
    ·rw [List.getElem?_map] at hv
     cases e:ys[i]? with
     | none=>rw [e] at hv;cases hv
     | some j=>
       rw [e] at hv
       cases hv
       have jl:=ym i j e
       have ee:es[j]?=some (es.getD j (0,.none)):=by simp [Array.getD,jl]
       exact zj9 st.1 st.2.1 st.2.2 hd hf e ee fun h' g sb=>hQ h' ⟨g,sb.extBut _ _ (Nat.ne_of_lt pI) st.2.1,sb.extBut _ _ (Nat.ne_of_lt aI) st.2.2⟩ sb
    ·exact zka hh st.1 st.2.1 st.2.2 hd hf (List.getElem?_eq_none (by omega)) hQ
   ·show b<((s.heap.push (zdm ys)).push (zcM (.ref s.heap.objs.size) 0 a es.size ep)).objs.size
    have hz:((s.heap.push (zdm ys)).push (zcM (.ref s.heap.objs.size) 0 a es.size ep)).objs.size=(s.heap.push (zdm ys)).objs.size+1:=size_push' _ _
    rw [hz]
    simp at hb
    rcases hb with rfl | rfl | rfl
    ·rw [e1];exact Nat.lt_succ_self _
    ·exact Nat.lt_succ_of_lt aI
    ·exact Nat.lt_succ_of_lt pI
   ·have hb:b=(s.heap.push (zdm ys)).objs.size∨b=a∨b=s.heap.objs.size:=by simpa using hb
    rcases hb with rfl | rfl | rfl
    ·exact .inr (Nat.le_of_lt pI)
    ·exact .inl rfl
    ·exact .inr (Nat.le_refl _)
   ·refine (yp.map _).trans (List.Perm.of_eq ?_)
    refine List.ext_getElem? fun i=>?_
    rw [List.getElem?_map,List.getElem?_map,Array.getElem?_toList (xs:=es)]
    by_cases z:i<es.size
    ·rw [List.getElem?_range z,Array.getElem?_eq_getElem z]
     simp [Array.getD,z]
    ·rw [List.getElem?_eq_none (by simp;omega),Array.getElem?_eq_none (by omega)]
     rfl
  ·have dr:(!t.plain&&decide (es.size > 1))=false:=by simpa using dr
   rw [if_neg (by rw [dr];simp)]
   refine wpAny_bind (wpAny_pure ?_)
   refine wpAny_bind (wpAny_setEpoch_of ho hd hf ?_)
   refine wpAny_bind (wpAny_newObj_type (wpAny_pure ⟨_,rfl,"set_iterator",_,⟨_,Heap.get?_push_size _ rfl,rfl⟩,zdl.lookup,?_⟩))
   have al:=Heap.lt_size ho
   refine q _ _ [s.heap.objs.size,a] (es.toList.map (·.2)) (fun i h=>h.get? s.heap.objs.size=some (zcM (rawInt (zdz t i)) i a es.size ep)∧h.get? a=some o) ⟨fun A' hh=>?_,⟨Heap.get?_push_size _ rfl,Heap.get?_push_of_some _ ho⟩,fun b hb=>?_,by simp,fun b o e=>Heap.get?_push_of_some _ e,fun b hb=>?_,rfl,Nat.le_refl _⟩ (List.Perm.refl _)
   ·refine zed (by simp) (by rw [List.length_map,Array.length_toList]) (fun i s st=>⟨_,st.1,rfl⟩) (fun i h h' st k=>⟨k _ (by simp) _ st.1,k _ (by simp) _ st.2⟩) (fun i s Q E v hv st hQ=>?_) fun s Q E st hQ=>?_
    ·rw [List.getElem?_map,Array.getElem?_toList] at hv
     cases e:es[i]? with
     | none=>rw [e] at hv;cases hv
     | some y=>
       rw [e] at hv
       cases hv
       have il:=(Array.getElem?_eq_some_iff.mp e).1
       have pi:t.place[i]?=some t.place[i]:=Array.getElem?_eq_getElem (by omega)
       have sl:zdz t (i+1)=t.place[i]+1:=by
        unfold zdz
        rw [if_neg (by omega),Nat.add_sub_cancel]
        simp [Array.getD,ps,il]
       refine zhd (nx:=zdz t (i+1)) st.1 st.2 hd hf (fun A' E' Q' z=>zkO st.2 hd hf bt led dr ?_) fun h' g sb=>hQ h' ⟨g,sb.extBut _ _ (Nat.ne_of_lt al) st.2⟩ sb
       rw [zeK ht (by omega),e,pi]
       rw [sl] at z
       exact z
    ·refine zhe hh st.1 st.2 hd hf (fun A' E' Q' z=>zkO st.2 hd hf bt led dr ?_) hQ
     rw [zeK ht (by omega),Array.getElem?_eq_none (by omega)]
     exact z
   ·show b<(s.heap.push (zcM (rawInt (0:Nat)) 0 a es.size ep)).objs.size
    have hz:(s.heap.push (zcM (rawInt (0:Nat)) 0 a es.size ep)).objs.size=s.heap.objs.size+1:=size_push' _ _
    rw [hz]
    simp at hb
    rcases hb with rfl | rfl
    ·exact Nat.lt_succ_self _
    ·exact Nat.lt_succ_of_lt al
   ·have hb:b=s.heap.objs.size∨b=a:=by simpa using hb
    rcases hb with rfl | rfl
    ·exact .inr (Nat.le_refl _)
    ·exact .inl rfl
end
end L2
namespace L2
open PySem PySem.Spec PyProof.Rows
theorem zmM:splitId "set.__len__" = some ("set","__len__"):=by decide +kernel
theorem zmN:isSubtype (.type "set") (.type "set")=pure true:=by rw [isSubtype_type];kernel_rfl
theorem zkQ {α:Type} {M:Model} {A:Around} {E:Value→Shared→Prop} {s:Shared} {Q : α→Shared→Prop} {c:Bool} {x y:Sem α} (hc:c=true) (h:wpAny M A x Q E s):wpAny M A (if c=true then x else y) Q E s:=by
 rw [if_pos hc]
 exact h
section
variable {prog:Program} {w:World} {A:Around} {E:Value→Shared→Prop} {s:Shared}
theorem zkd {a:Addr} (hT:s.TypeIs (.ref a) "set") {Q:Bool→Shared→Prop} (q:Q false s):wpAny (model prog w) A (Builtin.List.listLengthHint (.ref a)) Q E s:=by
 unfold Builtin.List.listLengthHint
 refine wpAny_bind (wpAny_specialOf hT F.slot_set_len.lookup ?_)
 dsimp only
 rw [zmM]
 dsimp only
 refine wpAny_bind (wpAny_isInstance hT zmN ?_)
 rw [if_neg (by decide)]
 refine zkQ (by decide +kernel) ?_
 refine wpAny_bind (wpAny_typeOf hT ?_)
 exact wpAny_pure q
theorem zgt {a:Addr} {o:Obj} {es:Array (Int × Value)} {ep:Nat} {t:SetTable} (ho:s.heap.get? a=some o) (hx:o.ExactSet) (hd:o.data=.set es ep t) (hf:t.fits es.size=true) (ht:TOk (led0 w) t) (big:es.size≤sizeLine) (hh:A.handled=none) {Q:List Value→Shared→Prop}
  (q:∀vs s',vs.Perm (es.toList.map (·.2))→(∀b o,s.heap.get? b=some o→s'.heap.get? b=some o)→s'.gens=s.gens→s'.os=s.os→Q vs s'):wpAny (model prog w) A (collect (.ref a)) Q E s:=by
 have al:=Heap.lt_size ho
 unfold collect
 refine wpAny_bind (wpAny_runValue (codeAny_builtin F.entry_proto_collect ?_))
 rw [Around.under_plainId F.plain_proto_collect _]
 show wpAny _ A.in1 (newList [] >>= fun l=>again (.builtin "list.__iadd__" ⟨[l,.ref a],[]⟩)) _ _ s
 refine wpAny_bind (wpAny_newObj_type ?_)
 refine wpAny_pure ⟨plainId_quiet F.plain_list_iadd _,codeAny_builtin F.entry_list_iadd ?_⟩
 rw [Around.under_plainId F.plain_list_iadd _]
 show wpAny _ A.in1 (Builtin.List.listExtendWith (.ref s.heap.objs.size) (.ref a) (.ref s.heap.objs.size)) _ _ { s with heap:=s.heap.push (seqObj "list" #[] 0) }
 have ho1:(s.heap.push (seqObj "list" #[] 0)).get? a=some o:=Heap.get?_push_of_some _ ho
 have hL1:(s.heap.push (seqObj "list" #[] 0)).get? s.heap.objs.size=some (seqObj "list" #[] 0):=Heap.get?_push_size _ rfl
 have k1:∀b o,s.heap.get? b=some o→(s.heap.push (seqObj "list" #[] 0)).get? b=some o:=fun b o e=>Heap.get?_push_of_some _ e
 have z1:(s.heap.push (seqObj "list" #[] 0)).objs.size=s.heap.objs.size+1:=size_push' _ _
 generalize s.heap.push (seqObj "list" #[] 0)=h1 at ho1 hL1 k1 z1 ⊢
 unfold Builtin.List.listExtendWith
 have hT1:Shared.TypeIs { s with heap:=h1 } (.ref a) "set" := ⟨o,ho1,hx.1⟩
 refine wpAny_bind (wpAny_typeOf hT1 ?_)
 have c1:Builtin.List.listSameRef (.ref s.heap.objs.size) (.ref a)=false:=by
  have:s.heap.objs.size≠a:=Ne.symm (Nat.ne_of_lt al)
  simp [Builtin.List.listSameRef,this]
 have c2:(Value.type "set" == Value.type "list")=false:=by decide
 have c3:(Value.type "set" == Value.type "tuple")=false:=by decide
 simp only [c1,c2,c3,Bool.or_false,Bool.false_eq_true,if_false]
 refine wpAny_bind (zkc (s := { s with heap:=h1 }) ho1 hx hd hf ht big fun I s1 fp vs St W pv=>?_)
 have hT2:s1.TypeIs (.ref a) "set" := ⟨o,W.kp _ _ ho1,hx.1⟩
 refine wpAny_bind (wpAny_holding (zkd hT2 ?_))
 refine zkQ (by decide +kernel) ?_
 refine wpAny_bind (wpAny_rule ?_)
 have nf:s.heap.objs.size∉fp:=fun hb=>by
  rcases W.ge _ hb with z | z
  ·exact absurd z (Ne.symm (Nat.ne_of_lt al))
  ·have z:h1.objs.size≤s.heap.objs.size:=z
   rw [z1] at z
   exact Nat.not_succ_le_self _ z
 have hL2:=W.kp _ _ hL1
 have W1:=(W.wk A.in1 (by show A.handled=none;exact hh)).toS
 show wpAny _ A.in1 ((updateSeq s.heap.objs.size (·.push .none) >>= fun _=>updateSeq s.heap.objs.size (·.pop)) >>= fun _=>again (.builtin "list.extend.loop" ⟨[.ref s.heap.objs.size,.ref I,.ref s.heap.objs.size],[]⟩)) _ _ _
 refine wpAny_bind (wpAny_bind (wpAny_updateSeq hL2 rfl ?_))
 have hL3:=Heap.get?_update_self (Obj.mapSeq (·.push Value.none)) hL2 rfl
 refine wpAny_updateSeq hL3 rfl ?_
 have hL4:=Heap.get?_update_self (Obj.mapSeq (·.pop)) hL3 rfl
 have oth:∀b o,b≠s.heap.objs.size→s1.heap.get? b=some o→((s1.heap.update s.heap.objs.size (Obj.mapSeq (·.push Value.none))).update s.heap.objs.size (Obj.mapSeq (·.pop))).get? b=some o:=
  fun b o hb e=>(Heap.get?_update_other _ _ (Ne.symm hb)).trans ((Heap.get?_update_other _ _ (Ne.symm hb)).trans e)
 refine wpAny_pure ⟨plainId_quiet F.plain_extend_loop _,codeAny_extend_loopS W1 big _ nf _ es.size 0 _ _ _ rfl (Nat.zero_le _) (W1.frame 0 s1 _ s1.toks W.at0 (Nat.le_refl _) fun b hb o e=>oth b o (fun h=>nf (h▸hb)) e) hL4 (ItemsOf.nil _) fun s' acc' c' hm hS' hacc=>?_⟩
 show wpAny _ A (load s.heap.objs.size >>= _) _ _ s'
 refine wpAny_bind (wpAny_load hS' ?_)
 have ev:acc'.toList=vs:=by
  have vl:vs.length=es.size:=by rw [pv.length_eq,List.length_map,Array.length_toList]
  refine List.ext_getElem (by rw [Array.length_toList,hacc.1,vl]) fun i g1 g2=>?_
  have this:vs[i]?=some acc'[i]:=hacc.2 i acc'[i] (Array.getElem?_eq_getElem (by simpa using g1))
  rw [List.getElem?_eq_getElem g2] at this
  rw [Array.getElem_toList]
  exact (Option.some.inj this).symm
 have es1:s1.gens=s.gens∧s1.os=s.os:=by
  rw [W.sm]
  exact ⟨rfl,rfl⟩
 refine wpAny_pure (q _ s' (by rw [ev];exact pv) (fun b o e=>?_) (hm.gens.trans es1.1) (hm.os.trans es1.2))
 have nb:b≠s.heap.objs.size:=Nat.ne_of_lt (Heap.lt_size e)
 have e2:=W.kp _ _ (k1 b o e)
 refine hm.heap b o (fun hb=>?_) (oth b o nb e2)
 rcases List.mem_cons.mp hb with z | z
 ·exact nb z
 ·have z:b=I:=by simpa using z
  subst z
  have y:h1.objs.size≤b:=W.gI
  have:=Heap.lt_size e
  rw [z1] at y
  exact absurd this (Nat.not_lt.mpr (Nat.le_trans (Nat.le_succ _) y))
end
end L2
namespace L2
open PySem PySem.Spec PyProof.Rows
theorem zkR (val:Nat→Int):∀n,(firstMet val n).Nodup
 | 0=>List.nodup_nil
 | n+1=>by
   rw [firstMet_succ,zi2]
   have ih:=zkR val n
   split
   ·exact ih
   ·rename_i c
    rw [List.nodup_append]
    refine ⟨ih,by simp,fun a ha b hb e=>?_⟩
    have:b=val n:=by simpa using hb
    subst this
    exact c (e▸ha)
theorem zlP (ns:List Int) (k:Int):k∈firstMet (fun i=>ns.getD i 0) ns.length↔k∈ns:=by
 have e:(List.range ns.length).map (fun i=>ns.getD i 0)=ns:=by
  refine List.ext_getElem (by simp) fun i h1 h2=>?_
  simp [List.getD_eq_getElem?_getD,h2]
 have a:=firstMet_any (fun i=>ns.getD i 0) ns.length k
 rw [e] at a
 constructor
 ·intro h
  have:(firstMet (fun i=>ns.getD i 0) ns.length).any (· == k)=true:=List.any_eq_true.mpr ⟨k,h,by simp⟩
  rw [a] at this
  obtain ⟨x,hx,ex⟩:=List.any_eq_true.mp this
  have:x=k:=by simpa using ex
  exact this▸hx
 ·intro h
  have:ns.any (· == k)=true:=List.any_eq_true.mpr ⟨k,h,by simp⟩
  rw [←a] at this
  obtain ⟨x,hx,ex⟩:=List.any_eq_true.mp this
  have:x=k:=by simpa using ex
  exact this▸hx
theorem Inv.moved {X:Cx} {pins:List (Addr × Obj)} {σ:St} {H:Hp} {s s':Shared} (I:Inv X pins σ H s) (k:∀b u,s.heap.get? b=some u→s'.heap.get? b=some u) (hg:s'.gens=s.gens) (ho:s'.os=s.os):Inv X pins σ H s':=by
 obtain ⟨h',g',d',t',o'⟩:=s'
 have hg:g'=s.gens:=hg
 have ho:o'=s.os:=ho
 subst hg ho
 have I':Inv X pins σ H { s with heap:=h',toks:=t' }:=I.kept (t':=t') k
 exact ⟨I'.ok,I'.os,I'.bare,I'.base,I'.loc,I'.cell,I'.free,I'.freeC,I'.pin,I'.hok,I'.len⟩
def zhf (K:PySem.W.Frag) (Q:VK):VK:=fun x H1=>∃(l:Addr) (ns:List Int),x=.ref l∧SqL K H1 l (ns.map V.int)∧ns.length≤3000∧
 ∀D H2 (ms:List Int),Same H1 H2→H1 D=none→H2 D=some (.lst (ms.map V.int))→(∀k,k∈ms↔k∈ns)→ms.Pairwise (· < ·)→Q (.ref D) H2
def zke (K:PySem.W.Frag) (te:TE):TE:=fun σ H Q=>te σ H (zhf K Q)
section
variable {X:Cx} {e:Expr} {te:TE} {p p2 pos pos2:Pos}
theorem zhL (hh:X.A.handled=none) (hg:Gl X "sorted") (hm:X.mg "sorted" = none) (hg2:Gl X "set") (hm2:X.mg "set" = none) (ha:PE X e te)
  (he:starEach [e] X.env=(false,eval e X.env)::starEach [] X.env:=by rfl):PE X (.Call (.Name "sorted" p) [.Call (.Name "set" p2) [e] [] pos2] [] pos) (zke X.K te):=by
 have hp:=zaa ha (zae (X:=X)) he
 with_unfolding_all
  intro pins s σ H Q I h
  refine wpAny_Call_Name_kw (zdu I hg hm boot_sorted ?_ (by decide) (by decide))
  refine PyProof.Rows.callWith_builtin1 ?_ rfl rfl
  show wpAny _ _ (spliced ((false,eval (.Call (.Name "set" p2) [e] [] pos2) X.env)::backTo pos (starEach [] X.env))) _ _ s
  refine Calls.spliced_cons ?_
  refine wpAny_Call_Name_kw (zdu I hg2 hm2 (by decide +kernel:bootBuiltins "set" = some (.type "set")) ?_ (by decide) (by decide))
  refine PyProof.Rows.callWith_type1 (thn (hp pos2 pins s σ H (fun xs H1=>match xs with | [x]=>zhf X.K Q x H1 | _=>False) I h) fun us s1 ⟨vs,H1,I1,r1,q1⟩=>?_) he rfl
  match vs,r1,q1 with
  | [x],r1,q1=>
  obtain ⟨l,ns,rfl,hl,hn,q⟩:=q1
  obtain ⟨u,rfl,ru⟩:=zer r1
  cases ru
  obtain ⟨its,rv,pl,hz⟩:=I1.list hl
  have il:its.length=ns.length:=by rw [←rv.length,List.length_map]
  have isz:its.toArray.size=ns.length:=by rw [List.size_toArray,il]
  refine zmL hh pl.isList (ns:=ns) (by rw [List.toList_toArray];exact zc9 rv) (by rw [isz];exact Nat.lt_of_le_of_lt (Nat.add_le_add_right hn 1) (by decide)) fun h' tk hS hk=>?_
  rw [isz] at hS
  refine Calls.spliced_nil ?_
  have kp:∀b o,s1.heap.get? b=some o→h'.get? b=some o:=fun b o e=>hk b o (Heap.lt_size e) e
  obtain ⟨o,es,ep,t,ho,hx,hd,hel,hf,ht,hpm⟩:=hS
  have esz:es.size≤3000:=by
   have:=hpm.length_eq
   rw [List.length_map,Array.length_toList] at this
   have:=firstMet_length_le (fun i=>ns.getD i 0) ns.length
   omega
  have I2:Inv X pins σ H1 { s1 with heap:=h',toks:=tk }:=I1.kept (t':=tk) kp
  refine zkb (ns0:=firstMet (fun i=>ns.getD i 0) ns.length) (Nat.le_trans (firstMet_length_le _ _) hn) (zkR _ _) (fun A' E' Q' hA q'=>?_) fun D H2 ms sm nD hD pm ps=>q D H2 ms sm nD hD (fun k=>by rw [pm.mem_iff,zlP]) ps
  refine zgt (s := { s1 with heap:=h',toks:=tk }) ho hx hd hf ht (Nat.le_trans esz (by decide)) (by rw [hA];exact hh) fun vs s' pv k' hg' ho'=>?_
  have kk:∀v,v∈vs→∃tk,v=.int (kOf (0,v)) tk:=fun v hv=>by
   obtain ⟨e,he,rfl⟩:=List.mem_map.mp (pv.mem_iff.mp hv)
   obtain ⟨⟨k,hk,_⟩,_⟩:=hel e he
   have hk:Value.isInt k e.2=true:=hk
   cases ev:e.2<;>rw [ev] at hk<;>simp [Value.isInt] at hk
   exact ⟨_,rfl⟩
  refine q' vs s' (vs.map fun v=>kOf (0,v)) (I2.moved k' hg' ho') ?_ ?_
  ·clear pv
   induction vs with
   | nil=>exact .nil
   | cons v vs ih=>
     obtain ⟨tk,e⟩:=kk v List.mem_cons_self
     refine .cons ?_ (ih fun v hv=>kk v (List.mem_cons_of_mem _ hv))
     exact ⟨tk,e⟩
  ·refine ((pv.map _).trans (List.Perm.of_eq ?_)).trans hpm
   rw [List.map_map]
   rfl
end
end L2
namespace L2
open PySem PySem.Spec PyProof.Rows
def ze7 (b:Int) (R:List (Int × List Int)):Prop:=∀(i:Nat) r,R[i]?=some r→r.1=b+i
def nAtR (R:List (Int × List Int)) (k:Nat):List Int:=match R[k]? with
 | some r=>r.2
 | none=>[]
theorem zee (t:Int):∀(A B:List (Int × List Int)) (L:List (Int × Int)),zaH t (A++B) L=zaH t B (zaH t A L)
 | [],B,L=>rfl
 | a::A,B,L=>zee t A B _
theorem zfR {t u:Int}:∀ {A:List (Int × List Int)} {L:List (Int × Int)},(∀r,r∈A→r.1≤t∧r.1≤u)→zaH t A L=zaH u A L
 | [],L,_=>rfl
 | a::A,L,h=>by
   show zaH t A _=zaH u A _
   rw [if_pos (h a List.mem_cons_self).1,if_pos (h a List.mem_cons_self).2]
   exact zfR fun r hr=>h r (List.mem_cons_of_mem _ hr)
theorem zcw {t:Int}:∀ {A:List (Int × List Int)} {L:List (Int × Int)},(∀r,r∈A→t<r.1)→zaH t A L=L
 | [],L,_=>rfl
 | a::A,L,h=>by
   show zaH t A _=_
   rw [if_neg (by have:=h a List.mem_cons_self;omega)]
   exact zcw fun r hr=>h r (List.mem_cons_of_mem _ hr)
theorem zkf (L:List (Int × Int)):L.map (zb1 [])=L:=by
 have:zb1 []=id:=by
  funext p
  unfold zb1
  rw [if_neg (by simp)]
  rfl
 rw [this,List.map_id]
theorem zef {b:Int} {R:List (Int × List Int)} (h:ze7 b R) (k:Nat) (L:List (Int × Int)):zaH (b+k) R L=(zaH (b+k-1) R L).map (zb1 (nAtR R k)):=by
 have hA:∀r,r∈R.take k→r.1≤b+k∧r.1≤b+k-1:=fun r hr=>by
  obtain ⟨i,hi,e⟩:=List.getElem_of_mem hr
  rw [List.length_take] at hi
  rw [List.getElem_take] at e
  have:=h i r (by rw [List.getElem?_eq_getElem (by omega),e])
  omega
 have hB:∀r,r∈R.drop (k+1)→b+k<r.1:=fun r hr=>by
  obtain ⟨i,hi,e⟩:=List.getElem_of_mem hr
  rw [List.length_drop] at hi
  rw [List.getElem_drop] at e
  have:=h (k+1+i) r (by rw [List.getElem?_eq_getElem (by omega),e])
  omega
 rw [show zaH (b+k) R L=zaH (b+k) (R.take k++R.drop k) L by rw [List.take_append_drop],show zaH (b+k-1) R L=zaH (b+k-1) (R.take k++R.drop k) L by rw [List.take_append_drop],zee,zee,zfR (u:=b+k-1) hA]
 generalize zaH (b+k-1) (R.take k) L=X
 unfold nAtR
 cases e:R[k]? with
 | none=>
   have:R.drop k=[]:=List.drop_eq_nil_of_le (List.getElem?_eq_none_iff.mp e)
   rw [this]
   exact (zkf X).symm
 | some r=>
   obtain ⟨kl,ek⟩:=List.getElem?_eq_some_iff.mp e
   have ed:R.drop k=r::R.drop (k+1):=by rw [←ek,List.getElem_cons_drop]
   have er:=h k r e
   rw [ed]
   show zaH (b+k) (R.drop (k+1)) (if r.1≤b+k then X.map (zb1 r.2) else X)=(zaH (b+k-1) (R.drop (k+1)) (if r.1≤b+k-1 then X.map (zb1 r.2) else X)).map (zb1 r.2)
   rw [if_pos (by omega),if_neg (by omega),zcw hB,zcw fun r hr=>by have:=hB r hr;omega]
theorem zfS:∀ {xs ys:List Int},xs.Pairwise (· < ·)→ys.Pairwise (· < ·)→(∀r,r∈xs↔r∈ys)→xs=ys
 | [],[],_,_,_=>rfl
 | [],y::ys,_,_,h=>by
   have:=(h y).mpr (by simp)
   cases this
 | x::xs,[],_,_,h=>by
   have:=(h x).mp (by simp)
   cases this
 | x::xs,y::ys,h1,h2,h=>by
   rw [List.pairwise_cons] at h1 h2
   have e:x=y:=by
    rcases List.mem_cons.mp ((h x).mp (by simp)) with e | e
    ·exact e
    ·rcases List.mem_cons.mp ((h y).mpr (by simp)) with f | f
     ·exact f.symm
     ·have a:=h1.1 y f
      have b:=h2.1 x e
      omega
   subst e
   rw [zfS h1.2 h2.2 fun r=>?_]
   have hr:=h r
   constructor
   ·intro m
    rcases List.mem_cons.mp (hr.mp (List.mem_cons_of_mem _ m)) with z | z
    ·have:=h1.1 r m
     omega
    ·exact z
   ·intro m
    rcases List.mem_cons.mp (hr.mpr (List.mem_cons_of_mem _ m)) with z | z
    ·have:=h2.1 r m
     omega
    ·exact z
theorem zhM {b:Int} {R S:List (Int × List Int)} (hR:ze7 b R) (hS:ze7 b S) {ms:List Int} (ps:ms.Pairwise (· < ·)) (hm:∀k,k∈ms↔k∈(R++S).map (·.1)):ms=(List.range (max R.length S.length)).map fun (i:Nat)=>b+(i:Int):=by
 refine zfS ps ?_ fun k=>?_
 ·rw [List.pairwise_map]
  exact List.pairwise_lt_range.imp fun {x y} h=>by omega
 ·rw [hm,List.mem_map,List.mem_map]
  constructor
  ·rintro ⟨r,hr,rfl⟩
   rcases List.mem_append.mp hr with z | z
   ·obtain ⟨i,hi,e⟩:=List.getElem_of_mem z
    exact ⟨i,List.mem_range.mpr (by omega),(hR i r (by rw [List.getElem?_eq_getElem hi,e])).symm⟩
   ·obtain ⟨i,hi,e⟩:=List.getElem_of_mem z
    exact ⟨i,List.mem_range.mpr (by omega),(hS i r (by rw [List.getElem?_eq_getElem hi,e])).symm⟩
  ·rintro ⟨i,hi,rfl⟩
   have hi:=List.mem_range.mp hi
   by_cases z:i<R.length
   ·exact ⟨R[i],List.mem_append_left _ (List.getElem_mem z),hR i _ (List.getElem?_eq_getElem z)⟩
   ·have z2:i<S.length:=by omega
    exact ⟨S[i],List.mem_append_right _ (List.getElem_mem z2),hS i _ (List.getElem?_eq_getElem z2)⟩
theorem zcx (h:Nat) (b:Int) (c:Ch):∀n,ze7 b (runN h n b c).1
 | 0=>fun i r e=>by
   have e:([]:List (Int × List Int))[i]?=some r:=e
   simp at e
 | n+1=>fun i r e=>by
   have e:((runN h n b c).1++[(b+n,wkC (b+n) h (runN h n b c).2)])[i]?=some r:=e
   have ln:=zeW h b c n
   by_cases z:i<n
   ·rw [List.getElem?_append_left (by omega)] at e
    exact zcx h b c n i r e
   ·rw [List.getElem?_append_right (by omega),ln] at e
    by_cases y:i=n
    ·subst y
     rw [Nat.sub_self] at e
     cases e
     rfl
    ·rw [List.getElem?_eq_none (by simp;omega)] at e
     cases e
end L2
namespace L2
open PySem PySem.Spec PyProof.Rows
section
variable {X:Cx} {a b:Expr} {rest:List Expr} {pos:Pos} {ta tb:TE}
def tOrP (ta tb:TE):TE:=fun σ H Q=>∃c d,(ta σ H fun x H1=>x=.bl c∧H1=H)∧(c=false→tb σ H fun x H1=>x=.bl d∧H1=H)∧Q (.bl (c||d)) H
theorem zmO (ha:PE X a ta) (hb:PE X (.BoolOp .Or (b::rest) pos) tb):PE X (.BoolOp .Or (a::b::rest) pos) (tOrP ta tb):=by
 with_unfolding_all
  intro pins s σ H Q I h
  obtain ⟨c,d,h1,h2,q⟩:=h
  refine BoolOp_or (thn (ha pins s σ H _ I h1) fun v s1 ⟨x,H1,I1,r1,q1⟩=>?_)
  obtain ⟨rfl,rfl⟩:=q1
  cases r1
  refine wpAny_truthy_bool ?_
  cases c with
  | false=>
    refine thn (hb pins s1 σ H1 _ I1 (h2 rfl)) fun v s2 ⟨x,H2,I2,r2,q2⟩=>?_
    obtain ⟨rfl,rfl⟩:=q2
    exact ⟨_,_,I2,r2,q⟩
  | true=>exact ⟨.bl true,H1,I1,rfl,q⟩
end
theorem CloV.stf {H:Hp} {q:Str} {ar:Arguments} {body:Expr} {scope:Scope} {f:Addr} {cl:List (Str × Addr)} {N:List Str} {cs:List Cel} (C:CloV H q ar body scope f cl N cs):CloV (stf H) q ar body scope f cl N cs:=by
 obtain ⟨pm,c,ct,oc,us,t,o,e1,e2,e3,e4⟩:=C.ex
 exact ⟨⟨pm,c,ct,oc,us,t,o,ziX e1,e2,ziX e3,e4⟩,C.inj,C.has,C.cov,C.len,C.cap,fun p hp=>⟨zlC (C.cel p hp).1,(C.cel p hp).2⟩,C.nd⟩
theorem zlQ {P:Program} {w:World} {K:PySem.W.Frag} {mg:Str→Option Value} {base:Heap} {x0 qual:Str} {st:Stmt} {f:Addr} {fd:FuncData} {cv:Value} {Nn ps:List Str} {k j:Nat} {sp:Sp} {T:Addr} {lp p2:Pos} {q xl:Str} {ar:Arguments} {body:Expr} {scope:Scope} {N:List Str} {js:List Nat} {te:TE}
  (F:FunC K x0 qual st f fd cv) (Sf:FnScope Nn ps (zac st)) (SI:Site K mg base cv T) (len:∀vs H Q E,sp vs H Q E→vs.length=ps.length)
  (hbd:zag st=[.Return (some (.Lambda ar body scope lp)) p2])
  (S:∀A outer s H E,CompScope (cxOf CX0 P w K mg base Nn qual (zac st) f cv A outer s H E) scope xl N js)
  (hq:∀(s:Shared),(envOfC qual (zac st) s.heap.objs.size f cv).qual ++ "<lambda>" = q) (hd:∀env,defaultsOf ar env=([],[]))
  (hfb:(scope.names.all fun y=>y.2 != .free||(N.drop 1).contains y.1)=true) (co:scope.isCoroutine=false) (ge:scope.isGenerator=false)
  (hb:∀cl pm c ct u,bindArgs (PySem.W.kla_fn "<lambda>" q ar body scope cl pm c ct) ⟨[u],[]⟩=pure [(xl,u)])
  (hlam:∀cl g cd A outer s H,Room j A→PE (cxV P w K mg base N scope cl q g cd A outer s H) body te)
  (hbody:∀(H:Hp) (vs:List V) (Q:VK) (E:XK),sp vs H Q E→∃vals,caps (zcY Nn vs) js=vals.map some∧H T=some (.tbl lp q)∧∀g cs H',Same H H'→cs.map (·.2.2)=vals→(∀p,p∈cs→H' p.1=none)→(cs.map (·.1)).Nodup→FnV P w K mg base j (stf (trc H' cs)) g (zmE te cs)→Q (.ref g) (trc H' cs)):
  FnOk P w K mg base CX0 (k+1) f fd ps sp:=by
 have hf:∀y,(y,NameKind.free)∈scope.names→∃i,N[i+1]?=some y:=fun y hy=>by
  have:=List.all_eq_true.mp hfb _ hy
  have z:(N.drop 1).contains y=true:=by simpa using this
  have z:=List.elem_iff.mp z
  obtain ⟨i,hi,ei⟩:=List.getElem_of_mem z
  refine ⟨i,?_⟩
  have e:=List.getElem?_eq_getElem hi
  rw [ei,List.getElem?_drop,Nat.add_comm] at e
  exact e
 obtain ⟨oc,od,kV,doc,pm,an,ct,osl,rfl,lk,hcd2⟩:=F.ex
 have hlm:=fun A outer s H E=>zmD (X:=cxOf CX0 P w K mg base Nn qual (zac st) f cv A outer s H E) (body:=body) (T:=T) (lp:=lp) (S A outer s H E) SI (hq s) (hd _)
 with_unfolding_all
  refine ⟨len,fun A outer s H args us vs Q E hr e0 hb0 r hsp=>?_⟩
  have hl:=len _ _ _ _ hsp
  have KX:K.In s.heap:=e0.mod.kin.keeps fun b o e=>(e0.bs b o e).1
  have lim:s.heap.NoLimit:=e0.mod.nolimit.keeps fun b o e=>(e0.bs b o e).1
  have hkind:∀y∈ps.zip us,(zac st).names.lookup y.1=some .local∨((zac st).names.lookup y.1=some .cell∧((cellsFrom (s.heap.objs.size+1) (zac st).names []).lookup y.1).isSome=true):=fun ⟨n,v⟩ hy=>by
   rcases Sf.par n (List.of_mem_zip hy).1 with q | q
   ·exact .inl q
   ·exact .inr ⟨q,PySem.W.cellsFrom_some _ _ _ (.inl q)⟩
  refine codeAny_call_function hr.depth (KX _ _ lk) rfl Sf.co Sf.gen rfl (PySem.W.codeRec_of KX hcd2) (hb0 _ _ _ _ ?_)
  refine wpAny_newFunctionEnv_cells Sf.kind hkind fun env he s1 x=>?_
  subst he
  refine ⟨lim.keeps x.toInCall.keep,codeAny_func ?_⟩
  obtain ⟨vals,ecap0,hT,hall⟩:=hbody H vs Q E hsp
  have I:Inv (cxOf CX0 P w K mg base Nn qual (zac st) f cv A outer s H E) [] (zcY Nn vs) H s1:=zfx Sf hr.hd e0 hl r x
  rw [hbd]
  refine wpAny_execs_cons (wpAny_Return_some (wpAny_mono (hlm A outer s H E [] s1 (zcY Nn vs) H (fun v H'=>∃g cl,v=.ref g∧Same H H'∧Lam (cxOf CX0 P w K mg base Nn qual (zac st) f cv A outer s H E) H' q ar body scope g cl) I ⟨hT,fun g cl H' sm L=>⟨g,cl,rfl,sm,L⟩⟩) (fun u s1 hs=>?_) fun e s' hs=>hs))
  obtain ⟨v,H1,I1,rv,g,cl,ev0,sm0,L0⟩:=hs
  subst ev0
  generalize hX:cxOf CX0 P w K mg base Nn qual (zac st) f cv A outer s H E=X at I1 L0
  have S:CompScope X scope xl N js:=hX▸S A outer s H E
  have L:=L0
  have hfn:∀i y,N[i+1]?=some y→X.fn y=true:=fun i y _=>by rw [←hX];rfl
  have ecap:=ecap0
  generalize zcY Nn vs = σ at ecap I1
  have R:∀i,i<js.length→∃c:Cel,∃y jj,N[i+1]?=some y∧js[i]?=some jj∧X.env.cells.lookup y=some c.1∧s1.heap.get? c.1=some c.2.1∧CellOk c∧vals[i]?=some c.2.2:=fun i hi=>by
   obtain ⟨jj,hj⟩:∃jj,js[i]?=some jj:=⟨_,List.getElem?_eq_getElem hi⟩
   obtain ⟨y,hy⟩:∃y,N[i+1]?=some y:=⟨_,List.getElem?_eq_getElem (by rw [S.len];omega)⟩
   obtain ⟨n1,n2,n3,n4⟩:=S.cap i jj y hy hj
   have ec:(caps σ js)[i]?=some ((σ[jj]?).join):=by
    unfold caps
    rw [List.getElem?_map,hj]
    rfl
   rw [ecap,List.getElem?_map] at ec
   cases ev:vals[i]? with
   | none=>rw [ev] at ec;cases ec
   | some v=>
     rw [ev] at ec
     have e6:(σ[jj]?).join=some v:=(Option.some.inj ec).symm
     have e7 : σ[jj]?=some (some v):=by
      cases eσ : σ[jj]? with
      | none=>rw [eσ] at e6;cases e6
      | some o=>rw [eσ] at e6;exact congrArg some e6
     obtain ⟨mX,_,lX⟩:=I1.loc
     obtain ⟨u,ru,lk⟩:=lX jj y v n1 e7 n2
     rcases lk with ⟨lk,_⟩ | ⟨_,d,ed,o,ho,hd⟩
     ·rw [n3] at lk;cases lk
     ·exact ⟨(d,o,v),y,jj,hy,hj,ed,ho,⟨u,hd,ru⟩,rfl⟩
  obtain ⟨cs,lcs,rcs⟩:=zci _ js.length R
  have at_:∀c,c∈cs→∃(i:Nat) (y:Str),cs[i]?=some c∧N[i+1]?=some y∧X.env.cells.lookup y=some c.1∧s1.heap.get? c.1=some c.2.1∧CellOk c:=fun c hc=>by
   obtain ⟨i,hi,ei⟩:=List.getElem_of_mem hc
   have e:=List.getElem?_eq_getElem hi
   rw [ei] at e
   obtain ⟨y,jj,a1,a2,a3,a4,a5,_⟩:=rcs i c e
   exact ⟨i,y,e,a1,a3,a4,a5⟩
  have nd:(cs.map (·.1)).Nodup:=by
   rw [List.nodup_iff_pairwise_ne,List.pairwise_map,List.pairwise_iff_getElem]
   intro i i' h1 h2 lt z
   obtain ⟨y,_,a1,_,a3,_⟩:=rcs i _ (List.getElem?_eq_getElem h1)
   obtain ⟨y',_,b1,_,b3,_⟩:=rcs i' _ (List.getElem?_eq_getElem h2)
   rw [←z] at b3
   have ey:=I1.ok.inj y y' _ a3 b3
   subst ey
   have:=zeL S.nd a1 b1
   omega
  have none1:∀c,c∈cs→H1 c.1=none:=fun c hc=>by
   obtain ⟨i,y,_,_,a3,_⟩:=at_ c hc
   exact I1.freeC y c.1 a3
  have big:∀c,c∈cs→X.s₀.heap.objs.size≤c.1:=fun c hc=>by
   obtain ⟨i,y,_,a1,a3,_⟩:=at_ c hc
   exact I1.ok.cab y c.1 (hfn i y a1) a3
  have ev:cs.map (·.2.2)=vals:=by
   have lv:vals.length=js.length:=by
    have:=congrArg List.length ecap
    unfold caps at this
    rw [List.length_map,List.length_map] at this
    exact this.symm
   refine List.ext_getElem? fun i=>?_
   rw [List.getElem?_map]
   cases e:cs[i]? with
   | none=>
     have:=List.getElem?_eq_none_iff.mp e
     rw [List.getElem?_eq_none (by omega)]
     rfl
   | some c=>
     obtain ⟨_,_,_,_,_,_,_,a6⟩:=rcs i c e
     rw [a6]
     rfl
  have sm:Same H1 (trc H1 cs):=zg9 none1
  have clo:CloV (trc H1 cs) q ar body scope g cl N cs:=by
   obtain ⟨pm,c,ct,oc,us',t',o,e1,e2,e3,e4⟩:=(L.same sm).ex
   refine ⟨⟨pm,c,ct,oc,us',t',o,e1,e2,e3,e4⟩,fun y z c h1 h2=>I1.ok.inj y z c (L.c1 y c h1) (L.c1 z c h2),L.c2,fun y c hc=>?_,by rw [S.len,lcs],fun i p y h1 h2=>?_,fun p hp=>⟨zg8 nd hp,?_⟩,nd⟩
   ·obtain ⟨i,hi⟩:=hf y (L.c3 y c hc)
    have il:i<cs.length:=by
     have:=(List.getElem?_eq_some_iff.mp hi).1
     rw [S.len] at this
     omega
    obtain ⟨y',jj,a1,_,a3,_⟩:=rcs i _ (List.getElem?_eq_getElem il)
    rw [hi] at a1
    cases a1
    refine ⟨_,List.getElem_mem il,?_⟩
    have:=L.c1 y c hc
    rw [a3] at this
    exact Option.some.inj this
   ·obtain ⟨y',jj,a1,a2,a3,_⟩:=rcs i p h2
    rw [h1] at a1
    cases a1
    obtain ⟨_,_,_,n4⟩:=S.cap i jj y h1 a2
    obtain ⟨d,hd⟩:=L.c2 y n4
    have:=L.c1 y d hd
    rw [a3] at this
    cases this
    exact ⟨hd,n4⟩
   ·obtain ⟨_,_,_,_,_,_,a5⟩:=at_ p hp
    exact a5
  have LS:LScope scope xl N:=⟨S.kind,S.nocell,S.own,S.head,S.apart⟩
  have F:FnV P w K mg base j (L2.stf (trc H1 cs)) g (zmE te cs):=by
   refine ⟨?_,fun A outer s2 H2 us2 vs2 Q2 hr2 e2 sm2 rv hq=>?_⟩
   ·obtain ⟨pm,c,ct,oc,us',t',o,e1,e2,_⟩:=clo.stf.ex
    exact ⟨o,_,e1,e2⟩
   ·obtain ⟨v,rfl,hq⟩:=hq
    obtain ⟨u,rfl,ru⟩:=zer rv
    exact zlz e2 LS (clo.stf.same sm2) hr2.hd (by have:=hr2.dp;omega) co ge (hb cl) (fun cd=>hlam cl g cd A outer s2 (drp H2 cs) hr2) ru hq
  have hQ:=hall g cs H1 sm0 ev none1 nd F
  have hs0:X.s₀=s:=by rw [←hX];rfl
  have hfs:X.fs=frs outer:=by rw [←hX];rfl
  have hex:X.ex=[]:=by rw [←hX];rfl
  have hH0:X.H₀=H:=by rw [←hX];rfl
  have hb2:=I1.base
  rw [hs0,hfs,hex,hH0] at hb2
  have hbig:∀c,c∈cs→s.heap.objs.size≤c.1:=fun c hc=>by have:=big c hc;rw [hs0] at this;exact this
  have offc:∀ {b:Addr} {o:HO},H1 b=some o→b∉cs.map (·.1):=fun {b o} e z=>by
   obtain ⟨c,hc,rfl⟩:=List.mem_map.mp z
   rw [none1 c hc] at e
   cases e
  have un:Un (frs outer) [] H (trc H1 cs) s.heap s1.heap:=by
   refine ⟨hb2.keep,hb2.slot,fun b o e n hx=>?_,hb2.there,fun b xs e=>?_,fun b o v e=>?_,fun b lp lq e=>?_⟩
   ·rw [zbT]
    ·exact hb2.free b o e n hx
    ·intro z
     obtain ⟨c,hc,rfl⟩:=List.mem_map.mp z
     exact Nat.lt_irrefl _ (Nat.lt_of_lt_of_le (Heap.lt_size e) (hbig c hc))
   ·have z:=hb2.tups b xs e
    rw [zbT (offc z)]
    exact z
   ·have z:=hb2.frzs b o v e
    rw [zbT (offc z)]
    exact z
   ·have z:=hb2.tbls b lp lq e
    rw [zbT (offc z)]
    exact z
  have hos:s1.os=s.os:=by have:=I1.os;rw [hs0] at this;exact this
  have hpw:X.prog=P∧X.w=w:=by rw [←hX];exact ⟨rfl,rfl⟩
  have hok1:HOk P w (trc H1 cs) s1.heap:=by
   have:=I1.hok
   rw [hpw.1,hpw.2] at this
   exact zkJ nd (fun c hc=>by
    obtain ⟨_,_,_,_,_,a4,_⟩:=at_ c hc
    exact ⟨none1 c hc,a4⟩) this
  exact ⟨.ref g,trc H1 cs,hos,I1.bare,un,hok1,rv,hQ⟩
end L2
namespace K71
open PySem L2
local macro_rules | `(tactic| walk_at "same") => `(tactic| first | exact Same.refl _ | assumption | (refine Same.trans (by assumption) ?_;walk_at "same"))
local macro_rules | `(tactic| walk_at "sq") => `(tactic| first | assumption | exact SqT.of (by assumption) | exact SqL.of (by assumption) | (refine Same.tup (by assumption) ?_;walk_at "sq") | (refine Same.seq (by assumption) ?_;walk_at "sq") | (refine Same.use (by assumption) ?_;walk_at "sq"))
local macro_rules | `(tactic| walk_at "leaf") => `(tactic| first | rfl | assumption | walk_at "sq" | (refine Or.inl ?_;walk_at "sq") | (refine Or.inr ?_;walk_at "sq") | exact sz _ (by decide) | exact ⟨by decide,by decide⟩ | exact ⟨by decide,by decide,by decide⟩ | exact Or.inl ⟨by decide,by decide⟩ | exact Or.inr ⟨by decide,by decide⟩ | (dsimp only;omega) | omega | exact Or.inl ⟨by omega,by omega⟩ | exact Or.inr ⟨by omega,by omega⟩ | exact ⟨by omega,by omega⟩ | (show (0:Int)<_;decide))
local macro_rules | `(tactic| walk_at "rd") => `(tactic| repeat (first | apply Exists.intro | refine And.intro (by walk_at "leaf") ?_ | refine iteT ?_ | refine iteF ?_))
def top (i:Nat):Stmt:=PySem.Challenge.pw_greywait_k71_whole_less_is_never_later.main.body.getD i (.Pass ⟨0,0,0,0⟩)
abbrev zbB:Stmt:=top 1
abbrev zaC:Stmt:=top 3
abbrev zbC:Stmt:=top 4
abbrev zaJ:Stmt:=top 6
abbrev za0:Stmt:=top 7
abbrev zbU:Stmt:=top 8
abbrev zaK:Stmt:=top 9
abbrev za1:Stmt:=top 10
abbrev zbc:Stmt:=top 11
abbrev zbD:Stmt:=top 12
abbrev zcP:Stmt:=top 13
abbrev zaL:Stmt:=top 18
abbrev zbr:Stmt:=top 19
abbrev zah:Stmt:=top 20
abbrev zax:Stmt:=top 21
abbrev zaD:Stmt:=top 23
abbrev zaM:Stmt:=top 24
abbrev zbs:Stmt:=top 25
abbrev zbd:Stmt:=top 26
abbrev zaR:Stmt:=top 27
abbrev zcj:Stmt:=top 28
abbrev zbE:Stmt:=top 30
abbrev zbV:Stmt:=top 31
abbrev zbF:Stmt:=top 32
abbrev zbe:Stmt:=top 33
abbrev zbt:Stmt:=top 34
abbrev zbu:Stmt:=top 35
abbrev zbf:Stmt:=top 36
abbrev zbg:Stmt:=top 37
abbrev zas:Stmt:=top 38
abbrev zbv:Stmt:=top 39
abbrev zaS:Stmt:=top 40
abbrev za2:Stmt:=top 41
abbrev zes:Stmt:=top 42
structure Txt (K:PySem.W.Frag) (mg:Str→Option Value):Prop where
 znq:mg "all" = none
 znr:mg "any" = none
 zmP:mg "bool" = none
 zhg:mg "dict" = none
 zeg:mg "enumerate" = none
 zi6:mg "int" = none
 zdA:mg "isinstance" = none
 zgu:mg "len" = none
 zmQ:mg "max" = none
 zlR:mg "min" = none
 zlS:mg "range" = none
 zns:mg "set" = none
 zhh:mg "sorted" = none
 zcy:PySem.W.kitOne K (.type "int") (.type "int")=some true
 zcd:PySem.W.kitOne K (.type "int") (.type "bool")=some false
 zck:PySem.W.kitOne K (.type "bool") (.type "bool")=some true
section
variable {P:Program} {w:World} {K:PySem.W.Frag} {mg:Str→Option Value} {base:Heap} {f:Addr} {fd:FuncData}
def zhi (K:PySem.W.Frag):Sp:=fun vs H Q _=>∃(a:Addr) (ns:List Int) (k:Int),vs=[.ref a,.int k]∧SqL K H a (ns.map V.int)∧0≤k∧∀v:Int,Q (.int v) H
def zmR:Sp:=fun vs H Q _=>∃x y:Int,vs=[.int x,.int y]∧0≤x∧0≤y∧Q (.int (M1.gd x y)) H
theorem znt:(2:Int) ^ (40:Int).toNat=1099511627776:=by decide
def zmS (K:PySem.W.Frag):Sp:=fun vs H Q _=>∃(p q:Addr) (t b u c:Int),vs=[.ref p,.ref q]∧SqT K H p [.int t,.int b]∧SqT K H q [.int u,.int c]∧0<b∧b<10000000000000000000∧0<c∧c<10000000000000000000∧
 ∀H',Same H H'→Q (.int (sg (t*c) (u*b))) H'
def zkg:Sp:=fun vs H Q _=>∃x k:Int,vs=[.int x,.int k]∧∀r:Int,0≤r→Q (.int r) H
def zfT:Sp:=fun vs H Q _=>∃x k:Int,vs=[.int x,.int k]∧0≤k∧∀r:Int,0≤r→Q (.int r) H
def zfU:Sp:=fun vs H Q _=>∃n:Int,vs=[.int n]∧0≤n∧∀p t b H',Same H H'→IsW H' p t b→Q (.ref p) H'
def zhj (K:PySem.W.Frag):Sp:=fun vs H Q _=>∃(a:Addr) (ns:List Int),vs=[.ref a]∧SqL K H a (ns.map V.int)∧∀b H',Same H H'→0≤b→b≤500→Q (.int b) H'
def zi7 (K:PySem.W.Frag):Sp:=fun vs H Q _=>∃x n b m:Int,vs=[.int x,.int n,.int b,.int m]∧0≤n∧0≤b∧b≤500∧0≤m∧m≤12∧∀p y H',Same H H'→IsCh K H' p y→ChOk 1000 y→y.1.n=n→Q (.ref p) H'
def zhk (K:PySem.W.Frag):Sp:=fun vs H Q _=>∃(a:Addr) (ns:List Int) (k b:Int),vs=[.ref a,.int k,.int b]∧SqL K H a (ns.map V.int)∧0≤k∧0≤b∧b≤500∧∀l xs H',Same H H'→H l=none→IsChs K H' l xs→xs.length≤40→(∀q,q∈xs→ChOk 1000 q.2)→(xs.map (·.2.1.n)).Nodup→Q (.ref l) H'
def zeh:Pos:=match (zag zah).getLast? with
 | some (.Return (some (.Call _ _ [⟨_,.Lambda _ _ _ lp,_⟩] _)) _)=>lp
 | _=>⟨0,0,0,0⟩
def lamQ:Str:=(("claims_in_order" : Str) ++ ".<locals>.") ++ "<lambda>"
variable {tT tL:Addr}
def ze8:Pos:=match ((zag zas)[0]?:Option Stmt) with
 | some (Stmt.Return (some (Expr.Lambda _ _ _ lp)) _)=>lp
 | _=>⟨0,0,0,0⟩
def zkh:Str:=(("_law_teller" : Str) ++ ".<locals>.") ++ "<lambda>"
def zij (K:PySem.W.Frag) (tT tL:Addr):Sp:=fun vs H Q _=>∃(a:Addr) (ns:List Int),vs=[.ref a]∧SqL K H a (ns.map V.int)∧ns.length≤63∧H tT=some (.tbl zeh lamQ)∧H tL=some (.tbl ze8 zkh)∧∀H',Q (.bl true) H'
def zhl (K:PySem.W.Frag):Sp:=fun vs H Q _=>∃(l:Addr) (ps:List (Addr × Cl)),vs=[.ref l]∧IsCs K H l ps∧Good (ps.map (·.2))∧∀M H',Same H H'→0<M→M≤27720→(∀c∈ps.map (·.2),c.wb∣M∧c.sb∣M)→Q (.int M) H'
def zmT (K:PySem.W.Frag):Sp:=fun vs H Q _=>∃(p:Addr) (c:Cl) (t M:Int),vs=[.ref p,.int t,.int M]∧IsCl K H p c∧c.Ok∧0<M∧M≤27720∧∀r H',Same H H'→H' r=some (.tup ((kM c t M).map V.int))→Q (.ref r) H'
def zi8 (K:PySem.W.Frag) (tT:Addr):Sp:=fun vs H Q _=>∃(l:Addr) (ps:List (Addr × Cl)) (t:Int),vs=[.ref l,.int t]∧IsCs K H l ps∧Good (ps.map (·.2))∧ps.length≤40∧H tT=some (.tbl zeh lamQ)∧
 ∀D H' (qs:List (Addr × Cl)),Same H H'→H D=none→H' D=some (.lst (qs.map fun q=>V.ref q.1))→qs.Perm ps→Srt t (qs.map (·.2))→Q (.ref D) H'
def zfV (K:PySem.W.Frag) (tT:Addr):Sp:=fun vs H Q _=>∃(l:Addr) (ps:List (Addr × Cl)) (t:Int),vs=[.ref l,.int t]∧IsCs K H l ps∧Good (ps.map (·.2))∧ps.length≤40∧H tT=some (.tbl zeh lamQ)∧
 ∀m H',Same H H'→H m=none→H' m=some (.lst (((ord (ps.map (·.2)) t).map (·.n)).map V.int))→Q (.ref m) H'
structure ChIn (K:PySem.W.Frag) (H:Hp) (l:Addr) (xs:List (Addr × Cl × Int)):Prop where
 chs:IsChs K H l xs
 len:xs.length≤40
 ok:∀q,q∈xs→ChOk 1000 q.2
 nd:(xs.map (·.2.1.n)).Nodup
theorem ChIn.same {H H':Hp} {l:Addr} {xs:List (Addr × Cl × Int)} (s:Same H H') (h:ChIn K H l xs):ChIn K H' l xs:=⟨h.chs.same s,h.len,h.ok,h.nd⟩
theorem ChIn.good {H:Hp} {l:Addr} {xs:List (Addr × Cl × Int)} (h:ChIn K H l xs) (t:Int):Good (csOf t xs):=ziN (fun q hq=>(h.ok q hq).ok) h.nd
def zhm (K:PySem.W.Frag) (tT:Addr):Sp:=fun vs H Q _=>∃(l:Addr) (xs:List (Addr × Cl × Int)) (h t:Int),vs=[.ref l,.int h,.int t]∧ChIn K H l xs∧0≤h∧H tT=some (.tbl zeh lamQ)∧∀m H',Same H H'→H m=none→H' m=some (.lst ((zdg t h.toNat xs).map V.int))→Q (.ref m) H'
def ze9 (K:PySem.W.Frag):Sp:=fun vs H Q _=>∃(l m:Addr) (xs:List (Addr × Cl × Int)) (ws:List Int),vs=[.ref l,.ref m]∧ChIn K H l xs∧H m=some (.lst (ws.map V.int))∧∀D H' bs,Same H H'→H D=none→IsBh H' D (behL H ws xs) bs→Q (.ref D) H'
def zkS (K:PySem.W.Frag) (tT:Addr):Sp:=fun vs H Q _=>∃(l:Addr) (xs:List (Addr × Cl × Int)) (h t:Int),vs=[.ref l,.int h,.int t]∧ChIn K H l xs∧0≤h∧H tT=some (.tbl zeh lamQ)∧
 ∀p m D H' bs,Same H H'→H' p=some (.tup [.ref m,.ref D])→H m=none→H D=none→m≠D→H' m=some (.lst ((zdg t h.toNat xs).map V.int))→IsBh H' D (behL H (zdg t h.toNat xs) xs) bs→Q (.ref p) H'
theorem ChIn.next {H H':Hp} {l D:Addr} {xs:List (Addr × Cl × Int)} {ws:List Int} {bs:List (Addr × List V)} (hI:ChIn K H l xs) (s:Same H H') (B:IsBh H' D (behL H ws xs) bs):
  ChIn K H' D (zipB bs (behL H ws xs))∧(zipB bs (behL H ws xs)).map (·.2)=bhC ws (xs.map (·.2)):=by
 obtain ⟨c1,c2⟩:=B.chs (K:=K) fun k hk=>by
  obtain ⟨q0,hq0,e,_⟩:=zg6 hk
  rw [e]
  exact (hI.chs.ch q0 hq0).kc.2.same s
 have cn:(zipB bs (behL H ws xs)).map (·.2.1.n)=(behL H ws xs).map (·.2.1.n):=by
  have:=congrArg (List.map fun x:Cl × Int=>x.1.n) c2
  rw [List.map_map,List.map_map] at this
  exact this
 refine ⟨⟨c1,?_,fun q' hq'=>?_,?_⟩,by rw [c2,zmy]⟩
 ·have:=congrArg List.length c2
  rw [List.length_map,List.length_map] at this
  rw [this]
  exact Nat.le_trans (zjS _ _ _) hI.len
 ·have:q'.2∈(behL H ws xs).map (·.2):=by
   rw [←c2]
   exact List.mem_map.mpr ⟨q',hq',rfl⟩
  obtain ⟨k,hk,e⟩:=List.mem_map.mp this
  obtain ⟨q0,hq0,e2,pos⟩:=zg6 hk
  have o:=hI.ok q0 hq0
  rw [←e,e2]
  have le:zaQ ws q0.2≤q0.2.2:=by
   unfold zaQ
   split<;>omega
  exact ⟨o.ok,Int.le_of_lt pos,Int.le_trans le o.l1,o.cm⟩
 ·rw [cn]
  exact zlr hI.nd
structure RunOf (H0 H:Hp) (h:Nat) (b:Int) (c:Ch) (D:Addr) (rs:List (Addr × Addr × Int × List Int)):Prop where
 run:IsRun H D rs
 new:∀r,r∈rs→H0 r.2.1=none
 ne:∀r,r∈rs→r.2.1≠D
 eq:∃n,rs.map (fun r=>(r.2.2.1,r.2.2.2))=(runN h n b (bhC [] c)).1∧(runN h n b (bhC [] c)).2=[]∧∀k,k<n→(runN h k b (bhC [] c)).2≠[]
theorem zkT:∀ {c:Ch},(∀k,k∈c→k.2≤12)→sumC c≤12*c.length
 | [],_=>Nat.le_refl _
 | k::c,h=>by
   have ih:=zkT (c:=c) fun j hj=>h j (List.mem_cons_of_mem _ hj)
   have:=h k List.mem_cons_self
   unfold sumC at *
   simp
   omega
theorem ChIn.sum {H:Hp} {l:Addr} {xs:List (Addr × Cl × Int)} (hI:ChIn K H l xs):sumC (xs.map (·.2))≤480:=by
 have a:=zkT (c:=xs.map (·.2)) fun k hk=>by
  obtain ⟨q,hq,rfl⟩:=List.mem_map.mp hk
  exact (hI.ok q hq).l1
 have:=hI.len
 rw [List.length_map] at a
 omega
theorem ChIn.cm {H:Hp} {l:Addr} {xs:List (Addr × Cl × Int)} (hI:ChIn K H l xs):∀k,k∈xs.map (·.2)→k.1.came≤1000:=fun k hk=>by
 obtain ⟨q,hq,rfl⟩:=List.mem_map.mp hk
 exact (hI.ok q hq).cm
theorem ChIn.gd {H:Hp} {l:Addr} {xs:List (Addr × Cl × Int)} (hI:ChIn K H l xs):GdC (xs.map (·.2)):=by
 refine ⟨fun k hk=>?_,?_⟩
 ·obtain ⟨q,hq,rfl⟩:=List.mem_map.mp hk
  exact (hI.ok q hq).ok
 ·rw [List.map_map]
  exact hI.nd
def spWk (L:List (Int × Int)):Sp:=fun vs H Q _=>∃n r:Int,vs=[.int n]∧valI L n=some r∧Q (.int r) H
def tkN (L:List (Int × Int)) (k:Cl × Int):Int:=if k.2<(valI L k.1.n).getD 0 then k.2 else (valI L k.1.n).getD 0
def takC (L:List (Int × Int)) (c:Ch):Ch:=c.map fun k=>(k.1,tkN L k)
def zhn:Sp:=fun vs H Q _=>∃i lo hi:Int,vs=[.int i,.int lo,.int hi]∧Q (.bl (decide (lo≤i)&&decide (i≤hi))) H
def zlT (L:List (Int × Int)) (n:Int):Prop:=∃r:Int,valI L n=some r∧0≤r
def zho (P:Program) (w:World) (K:PySem.W.Frag) (mg:Str→Option Value) (base:Heap):Sp:=fun vs H Q _=>∃(p f:Addr) (y:Cl × Int) (L:List (Int × Int)),vs=[.ref p,.ref f]∧IsCh K H p y∧0≤y.2∧FnV P w K mg base 3 H f (spWk L)∧zlT L y.1.n∧Q (.int (tkN L y)) H
def zmU (P:Program) (w:World) (K:PySem.W.Frag) (mg:Str→Option Value) (base:Heap) (H:Hp) (r:V) (xs:List (Addr × Cl × Int)) (c:Ch):Prop:=(r=.non∧c=xs.map (·.2))∨∃f L,r=.ref f∧FnV P w K mg base 3 H f (spWk L)∧(∀k,k∈xs→zlT L k.2.1.n)∧c=takC L (xs.map (·.2))
def zi9 (P:Program) (w:World) (K:PySem.W.Frag) (mg:Str→Option Value) (base:Heap):Sp:=fun vs H Q _=>∃(l:Addr) (r:V) (xs:List (Addr × Cl × Int)) (c:Ch),vs=[.ref l,r]∧ChIn K H l xs∧zmU P w K mg base H r xs c∧∀l' H' ys,Same H H'→ChIn K H' l' ys→ys.map (·.2)=c→Q (.ref l') H'
def zmV (P:Program) (w:World) (K:PySem.W.Frag) (mg:Str→Option Value) (base:Heap) (tT:Addr):Sp:=fun vs H Q _=>∃(l:Addr) (xs:List (Addr × Cl × Int)) (h b:Int) (r:V) (c:Ch),vs=[.ref l,.int h,.int b,r]∧ChIn K H l xs∧0<h∧0≤b∧b≤1000∧H tT=some (.tbl zeh lamQ)∧zmU P w K mg base H r xs c∧
 ∀D H' rs,Same H H'→H D=none→RunOf H H' h.toNat b c D rs→(∀r,r∈rs→r.2.2.2.length≤40)→rs.length≤1481→Q (.ref D) H'
theorem zmW {H:Hp} {l:Addr} {xs:List (Addr × Cl × Int)} (hI:ChIn K H l xs) (t:Int) (h:Nat):(zdg t h xs).length≤40:=by
 unfold zdg
 rw [List.length_take,List.length_map,(zbI _ _).length_eq]
 have:(csOf t xs).length≤xs.length:=by
  unfold csOf
  rw [List.length_map]
  exact List.length_filter_le _ _
 have:=hI.len
 omega
theorem zbl:FnScope ["one","other","rest"] ["one","other"] (zac zaC):=⟨rfl,rfl,rfl,by decide +kernel,rfl,by decide +kernel,by decide +kernel⟩
theorem zdo (D:Dfn K mg "common_divisor" zaC ["one","other"] f fd) (T:Txt K mg):Cal P w K mg base "common_divisor" 1 ["one","other"] zmR:=by
 refine D.cal (D.F.ok zbl (fun vs H Q E h=>?_) (fun cdv A outer s H vs Q E hr h=>?_))
 ·obtain ⟨x,y,rfl,_⟩:=h
  rfl
 obtain ⟨x,y,rfl,hx,hy,q⟩:=h
 refine ⟨_,(zad (zgO PassesOwn.never (zaw zcs (pv 1) zab (zay _)) (zad (zan (i:=2) zbl.nd rfl (Or.inl rfl) (zai zaB (pv 0) (pv 1)))
  (zad (zan (i:=0) zbl.nd rfl (Or.inl rfl) (pv 1))
  (zaf (zan (i:=1) zbl.nd rfl (Or.inl rfl) (pv 2))))))
  (zaf (zat (pv 0)))),?_⟩
 refine zgP (fun σ H'=>∃(a b:Int) (r:Option V),σ=[some (.int a),some (.int b),r]∧0≤a∧0≤b∧M1.gd a b=M1.gd x y∧H'=H)
  (fun σ _=>match σ with | [_,some (.int b),_]=>b.toNat | _=>0) ⟨x,y,none,rfl,hx,hy,rfl,rfl⟩ ?_ ?_
 ·rintro σ H' ⟨a,b,r,rfl,ha,hb,hg,rfl⟩
  refine ⟨_,rfl,_,_,rfl,rfl,_,rfl,?_⟩
  refine ite2 (fun c=>?_) (fun c=>?_)
  ·have c':0<b:=of_decide_eq_true c
   have m1:=Int.emod_nonneg a (show b≠0 by omega)
   have m2:=Int.emod_lt_of_pos a c'
   refine ⟨_,rfl,_,rfl,_,_,rfl,rfl,c',_,rfl,_,rfl,?_⟩
   refine ⟨⟨b,a % b,_,rfl,hb,m1,M1.gd_step.trans hg,rfl⟩,?_⟩
   show (a % b).toNat<b.toNat
   omega
  ·have c':¬ 0<b:=of_decide_eq_false (Bool.eq_false_iff.mpr c)
   have e:b=0:=by omega
   subst e
   rw [M1.gd_zero ha] at hg
   refine ⟨_,rfl,?_⟩
   rw [hg]
   exact q
 ·rintro σ H' Q1 Q2 hq ⟨v,e,i,j,e1,e2,k,ek,q1⟩
  exact ⟨v,e,i,j,e1,e2,k,ek,hq _ _ q1⟩
theorem za4:FnScope ["claims","common","claim","bottom"] ["claims"] (zac zaL):=⟨rfl,rfl,rfl,by decide +kernel,rfl,by decide +kernel,by decide +kernel⟩
theorem zdE (D:Dfn K mg "common_bottom" zaL ["claims"] f fd) (T:Txt K mg) (zbO:Cal P w K mg base "common_divisor" 1 ["one","other"] zmR):Cal P w K mg base "common_bottom" 2 ["claims"] (zhl K):=by
 refine D.cal (D.F.ok za4 (fun vs H Q E h=>?_) (fun cdv A outer s H vs Q E hr h=>?_))
 ·obtain ⟨l,ps,rfl,_⟩:=h
  rfl
 obtain ⟨l,ps,rfl,hC,G,q⟩:=h
 refine ⟨_,(zad (zan (i:=1) za4.nd rfl (Or.inl rfl) zab)
  (zad (zcp PassesOwn.never rfl (za6 (pv 0)) (zaO (i:=2) za4.nd rfl (Or.inl rfl)) (zaf (zcp PassesOwn.never rfl (zl6 (zaZ (zaa (zau zao (zau zao (pv 2) zab (fun _ _=>rfl)) zab (fun _ _=>rfl)) (zaa (zau zao (zau zao (pv 2) zab (fun _ _=>rfl)) zab (fun _ _=>rfl)) zae)))) (zaO (i:=3) za4.nd rfl (Or.inl rfl)) (zaf (zan (i:=1) za4.nd rfl (Or.inl rfl) (zai zeU (zai zbQ (pv 1) (pv 3)) (zam zbO (hr.mono (by decide)) rfl (zaa (pv 1) (zaa (pv 3) zae)))))))))
  (zaf (zat (pv 1))))),?_⟩
 refine ⟨_,rfl,l,rfl,⟨_,SqL.of hC.at_⟩,?_⟩
 refine zb2 (K:=K) (a:=l) (xs:=ps.map fun q=>V.ref q.1) (fun i σ H1=>∃(M:Int) (v2 v3:Option V),σ=[some (.ref l),some (.int M),v2,v3]∧Same H H1∧0<M∧M∣27720∧∀j y,j<i→ps[j]?=some y→y.2.wb∣M∧y.2.sb∣M)
  ⟨1,_,_,rfl,Same.refl _,by decide,by decide,fun j y z=>by omega⟩ (fun i σ H1 _ ⟨_,_,_,_,s1,_⟩=>SqL.of (s1 _ _ hC.at_)) ?_ ?_
 ·rintro i x σ H1 hi ⟨M,v2,v3,rfl,s1,M0,Md,hM⟩
  rw [List.getElem?_map] at hi
  cases e:ps[i]? with
  | none=>rw [e] at hi;cases hi
  | some y=>
    rw [e] at hi
    cases hi
    have hy:=List.mem_of_getElem? e
    have ok:=G.ok y.2 (List.mem_map.mpr ⟨y,hy,rfl⟩)
    obtain ⟨pw,ps',z1,z2,z3⟩:=((hC.cl y hy).same s1).ex
    refine ⟨_,rfl,y.1,_,_,_,rfl,rfl,SqT.of z1,rfl,pw,_,_,_,rfl,rfl,SqT.of z2,rfl,_,rfl,y.1,_,_,_,rfl,rfl,SqT.of z1,rfl,ps',_,_,_,rfl,rfl,SqT.of z3,rfl,sz 2 (by decide),fun lt H2 s2 n2 h2=>?_⟩
    refine ⟨lt,rfl,⟨_,SqT.of h2⟩,?_⟩
    have w2:=ok.w2
    have w3:=ok.w3
    have b2:=ok.s2
    have b3:=ok.s3
    refine zk0 (K:=K) (a:=lt) (xs:=[V.int y.2.wb,V.int y.2.sb]) (fun k σ H3=>∃(N:Int) (v3:Option V),σ=[some (.ref l),some (.int N),some (.ref y.1),v3]∧Same H2 H3∧0<N∧N∣27720∧M∣N∧(0<k→y.2.wb∣N)∧(1<k→y.2.sb∣N))
     ⟨M,_,rfl,Same.refl _,M0,Md,Int.dvd_refl _,fun z=>by omega,fun z=>by omega⟩ (fun k σ H3 _ ⟨_,_,_,s3,_⟩=>SqT.of (s3 _ _ h2)) ?_ ?_
    ·rintro k x σ H3 hk ⟨N,v3,rfl,s3,N0,N1,N2,N3,N4⟩
     have hx:∃b:Int,x=.int b∧0<b∧b≤12∧((k=0∧b=y.2.wb)∨(k=1∧b=y.2.sb)):=by
      rcases (by have:=(List.getElem?_eq_some_iff.mp hk).1;simp at this;omega:k=0∨k=1) with rfl | rfl
      ·simp at hk
       exact ⟨_,hk.symm,w2,w3,.inl ⟨rfl,rfl⟩⟩
      ·simp at hk
       exact ⟨_,hk.symm,b2,b3,.inr ⟨rfl,rfl⟩⟩
     obtain ⟨b,rfl,b0,b1,hb⟩:=hx
     have Nle:N≤27720:=Int.le_of_dvd (by decide) N1
     obtain ⟨L0,L1,L2,L3⟩:=zjL N0 b0
     have g0:=M1.gd_pos (x:=N) b0
     have g1:=M1.gd_le (x:=N) b0
     refine ⟨_,rfl,_,rfl,_,_,rfl,rfl,.inr ⟨by omega,by omega⟩,_,rfl,_,rfl,N,b,rfl,by omega,by omega,_,_,rfl,rfl,⟨g0,by omega⟩,?_⟩
     refine ⟨_,_,rfl,s3,L0,L3 _ N1 (ziD b0 b1),Int.dvd_trans N2 L1,fun _=>?_,fun z=>?_⟩
     ·rcases hb with ⟨rfl,rfl⟩ | ⟨rfl,rfl⟩
      ·exact L2
      ·exact Int.dvd_trans (N3 (by omega)) L1
     ·rcases hb with ⟨rfl,rfl⟩ | ⟨rfl,rfl⟩
      ·omega
      ·exact L2
    ·rintro σ H3 ⟨N,v3,rfl,s3,N0,N1,N2,N3,N4⟩
     refine ⟨N,_,_,rfl,s1.trans (s2.trans s3),N0,N1,fun j z hj hz=>?_⟩
     by_cases ji:j=i
     ·subst ji
      rw [e] at hz
      cases hz
      exact ⟨N3 (by simp),N4 (by simp)⟩
     ·obtain ⟨d1,d2⟩:=hM j z (by omega) hz
      exact ⟨Int.dvd_trans d1 N2,Int.dvd_trans d2 N2⟩
 ·rintro σ H1 ⟨M,v2,v3,rfl,s1,M0,Md,hM⟩
  refine ⟨_,rfl,q M H1 s1 M0 (Int.le_of_dvd (by decide) Md) fun c hc=>?_⟩
  obtain ⟨y,hy,rfl⟩:=List.mem_map.mp hc
  obtain ⟨j,hj,ej⟩:=List.getElem_of_mem hy
  exact hM j y (by rw [List.length_map];exact hj) (by rw [List.getElem?_eq_getElem hj,ej])
theorem zcz:FnScope ["claim","turn","common","weight","speed"] ["claim","turn","common"] (zac zbr):=⟨rfl,rfl,rfl,by decide +kernel,rfl,by decide +kernel,by decide +kernel⟩
theorem zfW (D:Dfn K mg "place_key" zbr ["claim","turn","common"] f fd) (T:Txt K mg):Cal P w K mg base "place_key" 1 ["claim","turn","common"] (zmT K):=by
 refine D.cal (D.F.ok zcz (fun vs H Q E h=>?_) (fun cdv A outer s H vs Q E hr h=>?_))
 ·obtain ⟨p,c,t,M,rfl,_⟩:=h
  rfl
 obtain ⟨p,c,t,M,rfl,hc,ok,M0,M1,q⟩:=h
 refine ⟨_,(zad (zan (i:=3) zcz.nd rfl (Or.inl rfl) (zai zbQ (zau zao (zau zao (pv 0) zab (fun _ _=>rfl)) zab (fun _ _=>rfl)) (zai zeU (pv 2) (zau zao (zau zao (pv 0) zab (fun _ _=>rfl)) zab (fun _ _=>rfl)))))
  (zad (zan (i:=4) zcz.nd rfl (Or.inl rfl) (zai zbQ (zau zao (zau zao (pv 0) zab (fun _ _=>rfl)) zab (fun _ _=>rfl)) (zai zeU (pv 2) (zau zao (zau zao (pv 0) zab (fun _ _=>rfl)) zab (fun _ _=>rfl)))))
  (zaf (zat (zaZ (zaa (zjt zgQ (zai za8 (pv 3) (zai zbQ (zai zfp (pv 1) (zau zao (pv 0) zab (fun _ _=>rfl))) (pv 4)))) (zaa (zau zao (pv 0) zab (fun _ _=>rfl)) (zaa (zau zao (pv 0) zab (fun _ _=>rfl)) zae)))))))),?_⟩
 obtain ⟨pw,ps,e1,e2,e3⟩:=id hc.ex
 have hp:SqT K H p _:=SqT.of e1
 have hw:SqT K H pw _:=SqT.of e2
 have hs:SqT K H ps _:=SqT.of e3
 have w2:=ok.w2
 have w3:=ok.w3
 have b2:=ok.s2
 have b3:=ok.s3
 have d1:M / c.wb≤M:=Int.ediv_le_self _ (by omega)
 have d2:0≤M / c.wb:=Int.ediv_nonneg (by omega) (by omega)
 have d3:M / c.sb≤M:=Int.ediv_le_self _ (by omega)
 have d4:0≤M / c.sb:=Int.ediv_nonneg (by omega) (by omega)
 have d5:c.st*(M / c.sb)≤1000000*27720:=Int.mul_le_mul ok.s1 (by omega) d4 (by decide)
 have d6:0≤c.st*(M / c.sb):=Int.mul_nonneg ok.s0 d4
 refine ⟨_,rfl,p,_,_,_,rfl,rfl,hp,rfl,pw,_,_,_,rfl,rfl,hw,rfl,_,rfl,_,rfl,p,_,_,_,rfl,rfl,hp,rfl,pw,_,_,_,rfl,rfl,hw,rfl,_,_,rfl,rfl,⟨w2,by omega⟩,_,_,rfl,rfl,.inr ⟨by omega,by omega⟩,?_⟩
 refine ⟨_,rfl,p,_,_,_,rfl,rfl,hp,rfl,ps,_,_,_,rfl,rfl,hs,rfl,_,rfl,_,rfl,p,_,_,_,rfl,rfl,hp,rfl,ps,_,_,_,rfl,rfl,hs,rfl,_,_,rfl,rfl,⟨b2,by omega⟩,_,_,rfl,rfl,.inr ⟨by omega,by omega⟩,?_⟩
 refine ⟨_,rfl,_,rfl,_,rfl,p,_,_,_,rfl,rfl,hp,rfl,_,_,rfl,rfl,_,rfl,_,_,rfl,rfl,.inr ⟨by omega,by omega⟩,_,_,rfl,rfl,_,rfl,?_⟩
 refine ⟨_,rfl,p,_,_,_,rfl,rfl,hp,rfl,_,rfl,p,_,_,_,rfl,rfl,hp,rfl,sz 3 (by decide),fun r H1 s1 n1 h1=>?_⟩
 exact q r H1 s1 h1
theorem zb4:FnScope ["claims","turn","common"] ["claims","turn"] (zac zah):=⟨rfl,rfl,rfl,by decide +kernel,rfl,by decide +kernel,by decide +kernel⟩
theorem zc5 {cv:Value} (D:DfnC K mg "claims_in_order" zah ["claims","turn"] f fd cv) (SI:Site K mg base cv tT) (T:Txt K mg) (zbW:Cal P w K mg base "common_bottom" 2 ["claims"] (zhl K)) (zcQ:Cal P w K mg base "place_key" 1 ["claim","turn","common"] (zmT K)):Cal P w K mg base "claims_in_order" 6 ["claims","turn"] (zi8 K tT):=by
 refine D.cal (D.F.ok zb4 (fun vs H Q E h=>?_) (fun A outer s H vs Q E hr h=>?_))
 ·obtain ⟨l,ps,t,rfl,_⟩:=h
  rfl
 obtain ⟨l,ps,t,rfl,hC,G,pl,hT,q⟩:=h
 refine ⟨_,(zad (zan (i:=2) zb4.nd rfl (Or.inr rfl) (zam zbW (hr.mono (by decide)) rfl (zaa (pv 0) zae)))
  (zaf (zat (zhC (N:=["claim","turn","common"]) (js:=[1,2]) (CompScope.of rfl rfl rfl rfl rfl (by decide +kernel) rfl rfl rfl rfl) SI rfl hr.depth rfl rfl T.zhh (zaa (pv 0) zae) (fun _ _ _ _ _=>(zam zcQ (((hr.mono (j:=1+3) (by decide)).in1).in1.deeper _) rfl (zaa (pv 0) (zaa (pv 1) (zaa (pv 2) zae))))))))),?_⟩
 refine ⟨_,rfl,l,ps,rfl,hC,G,fun M H1 s1 M0 M1 hM=>?_⟩
 have ml:(ps.map fun q=>V.ref q.1).length=(ps.map (·.2)).length:=by rw [List.length_map,List.length_map]
 refine ⟨_,rfl,l,_,zdd (ps.map (·.2)) t M,3,rfl,SqL.of (hC.same s1).at_,by rw [ml,List.length_map];omega,zmr _ t M,by decide,by rw [ml];exact zmt G M0 hM,s1 _ _ hT,fun H2 s2=>⟨fun i v hv H3 s3=>?_,fun D H' p s' n' h' hp hs=>?_⟩⟩
 ·rw [List.getElem?_map] at hv
  cases e:ps[i]? with
  | none=>rw [e] at hv;cases hv
  | some y=>
    rw [e] at hv
    cases hv
    have hy:=List.mem_of_getElem? e
    refine ⟨_,rfl,_,rfl,_,rfl,y.1,y.2,t,M,rfl,(hC.cl y hy).same (s1.trans (s2.trans s3)),G.ok y.2 (List.mem_map.mpr ⟨y,hy,rfl⟩),M0,M1,fun r H4 s4 h4=>⟨s4,r,rfl,?_⟩⟩
    rw [h4]
    unfold zdd
    rw [List.getElem?_map,e]
    rfl
 ·rw [ml] at hp
  have s02:=s1.trans s2
  have d:Addr × Cl:=(0,⟨0,0,1,0,1,0⟩)
  have lt:∀i∈p,i<ps.length:=fun i hi=>by
   have:=List.mem_range.mp (hp.mem_iff.mp hi)
   simpa using this
  have hp2:p.Perm (List.range ps.length):=by simpa using hp
  refine q D H' (p.map fun i=>ps.getD i d) (s02.trans s') (Same.free s02 n') ?_ (ziE d ps hp2) (zjM G M0 hM hp d hs)
  rw [h',List.map_map]
  congr 2
  refine List.map_congr_left fun i hi=>?_
  have:=lt i hi
  show (ps.map fun q=>V.ref q.1).getD i .non=V.ref (ps.getD i d).1
  rw [List.getD_eq_getElem?_getD,List.getD_eq_getElem?_getD,List.getElem?_map,List.getElem?_eq_getElem this]
  rfl
theorem zcR:FnScope ["claims","turn"] ["claims","turn"] (zac zax):=⟨rfl,rfl,rfl,by decide +kernel,rfl,by decide +kernel,by decide +kernel⟩
theorem zcS (D:Dfn K mg "numbers_in_order" zax ["claims","turn"] f fd) (T:Txt K mg) (zbG:Cal P w K mg base "claims_in_order" 6 ["claims","turn"] (zi8 K tT)):Cal P w K mg base "numbers_in_order" 7 ["claims","turn"] (zfV K tT):=by
 refine D.cal (D.F.ok zcR (fun vs H Q E h=>?_) (fun cdv A outer s H vs Q E hr h=>?_))
 ·obtain ⟨l,ps,t,rfl,_⟩:=h
  rfl
 obtain ⟨l,ps,t,rfl,hC,G,pl,hT,q⟩:=h
 refine ⟨_,(zaf (zat (zbS (N:=["claim"]) (js:=[]) rfl (CompScope.of rfl rfl rfl rfl rfl (by decide +kernel) rfl rfl rfl rfl) (za6 (zam zbG (hr.mono (by decide)) rfl (zaa (pv 0) (zaa (pv 1) zae)))) (fun _ _ _ _ _=>zc1) (fun _ _ _ _ _=>(zau (r:=rIxT K) zao (pv 0) zab (fun _ _=>rfl)))))),?_⟩
 refine ⟨_,rfl,_,rfl,l,ps,t,rfl,hC,G,pl,hT,fun m H1 qs s1 n1 h1 hp hs=>⟨m,rfl,⟨_,SqL.of h1⟩,?_⟩⟩
 have mo:(qs.map fun q=>V.ref q.1).length=qs.length:=List.length_map _
 have lq:=hp.length_eq
 refine zcc (xs:=qs.map fun q=>V.ref q.1) (fun _=>true) (itm qs fun q=>V.int q.2.n) (SqL.of h1) (fun i x Hh Q' hx sh q'=>q' Hh (Same.refl _)) ?_ (zaF (by rw [mo];omega)) (fun D H2 s2 nD hD=>?_)
 ·intro i x Hh Q' hx _ sh q'
  rw [List.getElem?_map] at hx
  cases e:qs[i]? with
  | none=>rw [e] at hx;cases hx
  | some y=>
    rw [e] at hx
    cases hx
    obtain ⟨pw,pz,z1,_,_⟩:=(((hC.cl y (hp.mem_iff.mp (List.mem_of_getElem? e))).same s1).same sh).ex
    refine ⟨_,rfl,y.1,_,_,_,rfl,rfl,SqT.of z1,rfl,?_⟩
    have z:=q' Hh (Same.refl _)
    unfold itm at z
    rw [e] at z
    exact z
 rw [zcG,mo,zd3] at hD
 refine q D H2 (s1.trans s2) (Same.free s1 nD) ?_
 rw [hD,←zjG G (hp.map _) hs,List.map_map,List.map_map]
 rfl
theorem zce:FnScope ["chores","hands","turn","there"] ["chores","hands","turn"] (zac zaD):=⟨rfl,rfl,rfl,by decide +kernel,rfl,by decide +kernel,by decide +kernel⟩
theorem zdp (D:Dfn K mg "numbers_worked" zaD ["chores","hands","turn"] f fd) (T:Txt K mg) (zbz:Cal P w K mg base "numbers_in_order" 7 ["claims","turn"] (zfV K tT)):Cal P w K mg base "numbers_worked" 8 ["chores","hands","turn"] (zhm K tT):=by
 refine D.cal (D.F.ok zce (fun vs H Q E h=>?_) (fun cdv A outer s H vs Q E hr h=>?_))
 ·obtain ⟨l,xs,h,t,rfl,_⟩:=h
  rfl
 obtain ⟨l,xs,h,t,rfl,hx,h0,hT,q⟩:=h
 refine ⟨_,(zad (ziw (i:=3) (N:=["chore","turn"]) (js:=[2]) zce.nd rfl rfl rfl (CompScope.of rfl rfl rfl rfl rfl (by decide +kernel) rfl rfl rfl rfl) (za6 (pv 0)) (fun _ _ _ _ _=>(zfG (PW.pt (zgL (zaw zcs (zau (r:=rIxT K) zao (pv 0) zab (fun _ _=>rfl)) zab (zay _)) (zeN (zaw zh4 (zau (r:=rIxT K) zao (zau (r:=rIxT K) zao (pv 0) zab (fun _ _=>rfl)) zab (fun _ _=>rfl)) (pv 1) (zay _))))))) (fun _ _ _ _ _=>(zau (r:=rIxT K) zao (pv 0) zab (fun _ _=>rfl))))
  (zaf (zat (zdN zdO (zam zbz (hr.mono (by decide)) rfl (zaa (pv 3) (zaa (pv 2) zae))) zgf (zdW (pv 1)))))),?_⟩
 refine ⟨_,rfl,l,rfl,⟨_,SqL.of hx.chs.at_⟩,?_⟩
 have ml:(xs.map fun q=>V.ref q.1).length=xs.length:=List.length_map _
 refine zcc (xs:=xs.map fun q=>V.ref q.1) (tak xs (zd7 t)) (itm xs fun k=>V.ref (kcOf H k.1)) (SqL.of hx.chs.at_) ?_ ?_ (zaF (by rw [ml];exact Nat.le_trans hx.len (by decide))) (fun D H2 s2 nD hD=>?_)
 ·intro i x Hh Q' hi sh q'
  rw [List.getElem?_map] at hi
  cases e:xs[i]? with
  | none=>rw [e] at hi;cases hi
  | some k=>
    rw [e] at hi
    cases hi
    have z:=q' Hh (Same.refl _)
    unfold tak zd7 at z
    rw [e] at z
    have z:Q' (decide (0<k.2.2)&&decide (k.2.1.came≤t)) Hh:=z
    obtain ⟨k1,k2⟩:=(hx.chs.ch k (List.mem_of_getElem? e)).kc
    obtain ⟨_,_,c1,_,_⟩:=id k2.ex
    refine ⟨_,rfl,k.1,_,_,_,rfl,rfl,SqT.of (sh _ _ k1),rfl,_,_,rfl,rfl,_,rfl,?_⟩
    by_cases c1':0<k.2.2
    ·refine iteD c1' ?_
     rw [decide_eq_true c1',Bool.true_and] at z
     exact ⟨_,rfl,k.1,_,_,_,rfl,rfl,SqT.of (sh _ _ k1),rfl,_,_,_,_,rfl,rfl,SqT.of (sh _ _ c1),rfl,_,rfl,_,_,rfl,rfl,_,rfl,z⟩
    ·refine zfE c1' ?_
     rw [decide_eq_false c1',Bool.false_and] at z
     exact z
 ·intro i x Hh Q' hi _ sh q'
  rw [List.getElem?_map] at hi
  cases e:xs[i]? with
  | none=>rw [e] at hi;cases hi
  | some k=>
    rw [e] at hi
    cases hi
    have z:=q' Hh (Same.refl _)
    unfold itm at z
    rw [e] at z
    obtain ⟨k1,k2⟩:=(hx.chs.ch k (List.mem_of_getElem? e)).kc
    exact ⟨_,rfl,k.1,_,_,_,rfl,rfl,SqT.of (sh _ _ k1),rfl,z⟩
 rw [ml,zd6,←zgn] at hD
 have hC:IsCs K H2 D (zcO H t xs):=⟨hD,fun c hc=>(ziO hx.chs t hc).same s2⟩
 have G:Good ((zcO H t xs).map (·.2)):=by rw [zfL];exact hx.good t
 refine ⟨_,rfl,_,rfl,D,zcO H t xs,t,rfl,hC,G,Nat.le_trans (zhF _ _ _) hx.len,s2 _ _ hT,fun m H3 s3 n3 h3=>?_⟩
 rw [zfL] at h3
 refine ⟨_,rfl,_,rfl,m,_,rfl,SqL.of h3,fun p H4 s4 n4 h4=>?_⟩
 refine q p H4 (s2.trans (s3.trans s4)) (Same.free (s2.trans s3) n4) ?_
 rw [h4]
 unfold zdg cutV
 rw [HT.sIx_none,show h=((h.toNat:Nat):Int) by omega,HT.sIx_nat,List.length_map,List.drop_zero,Nat.sub_zero,List.map_take,Int.toNat_natCast]
 congr 2
 rw [Nat.min_def]
 split
 ·rfl
 ·rw [List.take_of_length_le (by rw [List.length_map];omega),List.take_of_length_le (by rw [List.length_map];omega)]
theorem zcq:FnScope ["chores","numbers","lessened"] ["chores","numbers"] (zac zaM):=⟨rfl,rfl,rfl,by decide +kernel,rfl,by decide +kernel,by decide +kernel⟩
theorem zdF (D:Dfn K mg "chores_behind" zaM ["chores","numbers"] f fd) (T:Txt K mg):Cal P w K mg base "chores_behind" 1 ["chores","numbers"] (ze9 K):=by
 refine D.cal (D.F.ok zcq (fun vs H Q E h=>?_) (fun cdv A outer s H vs Q E hr h=>?_))
 ·obtain ⟨l,m,xs,ws,rfl,_⟩:=h
  rfl
 obtain ⟨l,m,xs,ws,rfl,hx,hm,q⟩:=h
 refine ⟨_,(zad (ziw (i:=2) (N:=["chore","numbers"]) (js:=[1]) zcq.nd rfl rfl rfl (CompScope.of rfl rfl rfl rfl rfl (by decide +kernel) rfl rfl rfl rfl) (za6 (pv 0)) (fun _ _ _ _ _=>zc1) (fun _ _ _ _ _=>(zaZ (zaa (zau (r:=rIxT K) zao (pv 0) zab (fun _ _=>rfl)) (zaa (zeO (zaw (zkE (K:=K) rfl) (zau (r:=rIxT K) zao (zau (r:=rIxT K) zao (pv 0) zab (fun _ _=>rfl)) zab (fun _ _=>rfl)) (pv 1) rfl) (zai zfp (zau (r:=rIxT K) zao (pv 0) zab (fun _ _=>rfl)) zab) (zau (r:=rIxT K) zao (pv 0) zab (fun _ _=>rfl))) zae)))))
  (zaf (zat (zbS (N:=["chore"]) (js:=[]) rfl (CompScope.of rfl rfl rfl rfl rfl (by decide +kernel) rfl rfl rfl rfl) (za6 (pv 2)) (fun _ _ _ _ _=>(zfG (zaw zcs (zau (r:=rIxT K) zao (pv 0) zab (fun _ _=>rfl)) zab (zay _)))) (fun _ _ _ _ _=>(pv 0)))))),?_⟩
 refine ⟨_,rfl,l,rfl,⟨_,SqL.of hx.chs.at_⟩,?_⟩
 have ml:(xs.map fun q=>V.ref q.1).length=xs.length:=List.length_map _
 have fl:∀ns:List Int,(ns.map V.int).all zcL=true:=fun ns=>List.all_eq_true.mpr fun y hy=>by obtain ⟨i,_,rfl⟩:=List.mem_map.mp hy;rfl
 refine zfK (xs:=xs.map fun q=>V.ref q.1) (tak xs fun _=>true) (itl xs fun k=>[V.ref (kcOf H k.1),V.int (zaQ ws k.2)]) (SqL.of hx.chs.at_) ?_ ?_ (zaF (by rw [ml];exact Nat.le_trans hx.len (by decide))) (fun D H2 bs s2 nD hD eb hb=>?_)
 ·intro i x Hh Q' hi sh q'
  have z:=q' Hh (Same.refl _)
  unfold tak at z
  rw [List.getElem?_map] at hi
  cases e:xs[i]? with
  | none=>rw [e] at hi;cases hi
  | some k=>
    rw [e] at z
    exact z
 ·intro i x Hh Q' hi _ sh q'
  rw [List.getElem?_map] at hi
  cases e:xs[i]? with
  | none=>rw [e] at hi;cases hi
  | some k=>
    rw [e] at hi
    cases hi
    obtain ⟨k1,k2⟩:=(hx.chs.ch k (List.mem_of_getElem? e)).kc
    obtain ⟨_,_,c1,_,_⟩:=id k2.ex
    have z:∀b Hh',Same Hh Hh'→Hh' b=some (.tup [V.ref (kcOf H k.1),V.int (zaQ ws k.2)])→Q' (.ref b) Hh':=fun b H' s' h'=>q' b H' s' (by rw [h'];unfold itl;rw [e])
    refine ⟨_,rfl,k.1,_,_,_,rfl,rfl,SqT.of (sh _ _ k1),rfl,?_⟩
    refine ⟨_,rfl,k.1,_,_,_,rfl,rfl,SqT.of (sh _ _ k1),rfl,_,_,_,_,rfl,rfl,SqT.of (sh _ _ c1),rfl,_,rfl,m,_,rfl,.inl (SqL.of (sh _ _ hm)),rfl,fl _,_,rfl,?_⟩
    have ei:(if false=true then !inV (.int k.2.1.n) (ws.map V.int) else inV (.int k.2.1.n) (ws.map V.int))=decide (k.2.1.n∈ws):=by
     rw [if_neg Bool.false_ne_true]
     exact zgm
    rw [ei]
    by_cases c:k.2.1.n∈ws
    ·refine iteD c ?_
     refine ⟨_,rfl,k.1,_,_,_,rfl,rfl,SqT.of (sh _ _ k1),rfl,_,_,rfl,rfl,sz 2 (by decide),fun b H3 s3 n3 h3=>z b H3 s3 ?_⟩
     rw [h3]
     unfold zaQ
     rw [if_pos c]
    ·refine zfE c ?_
     refine ⟨_,rfl,k.1,_,_,_,rfl,rfl,SqT.of (sh _ _ k1),rfl,sz 2 (by decide),fun b H3 s3 n3 h3=>z b H3 s3 ?_⟩
     rw [h3]
     unfold zaQ
     rw [if_neg c]
 rw [ml,zde,zdQ] at eb
 have lb:bs.length=xs.length:=by
  have:=congrArg List.length eb
  rw [List.length_map,List.length_map] at this
  exact this
 have mb:(bs.map fun b=>V.ref b.1).length=bs.length:=List.length_map _
 refine ⟨_,rfl,D,rfl,⟨_,SqL.of hD⟩,?_⟩
 have parts:∀b,b∈bs→∃(a:Addr) (i:Int),b.2=[.ref a,.int i]:=fun b hb'=>by
  have:b.2∈bs.map (·.2):=List.mem_map.mpr ⟨b,hb',rfl⟩
  rw [eb] at this
  obtain ⟨k,_,e⟩:=List.mem_map.mp this
  exact ⟨_,_,e.symm⟩
 refine zcc (xs:=bs.map fun b=>V.ref b.1) (tak bs fun b=>plV b.2) (itm bs fun b=>V.ref b.1) (SqL.of hD) ?_ ?_ (zaF (by rw [mb,lb];exact Nat.le_trans hx.len (by decide))) (fun D3 H3 s3 nD3 hD3=>?_)
 ·intro i x Hh Q' hi sh q'
  rw [List.getElem?_map] at hi
  cases e:bs[i]? with
  | none=>rw [e] at hi;cases hi
  | some b=>
    rw [e] at hi
    cases hi
    have hbm:=List.mem_of_getElem? e
    have z:=q' Hh (Same.refl _)
    unfold tak at z
    rw [e] at z
    obtain ⟨a,n,e2⟩:=parts b hbm
    have z:Q' (plV b.2) Hh:=z
    rw [e2] at z
    have g:=sh _ _ (hb b hbm)
    rw [e2] at g
    exact ⟨_,rfl,b.1,_,_,_,rfl,rfl,SqT.of g,rfl,_,_,rfl,rfl,_,rfl,z⟩
 ·intro i x Hh Q' hi _ sh q'
  rw [List.getElem?_map] at hi
  cases e:bs[i]? with
  | none=>rw [e] at hi;cases hi
  | some b=>
    rw [e] at hi
    cases hi
    have z:=q' Hh (Same.refl _)
    unfold itm at z
    rw [e] at z
    exact ⟨_,rfl,z⟩
 rw [mb,zd6] at hD3
 exact q D3 H3 _ (s2.trans s3) (Same.free s2 nD3) ⟨hD3,fun b hb'=>s3 _ _ (hb b (List.mem_filter.mp hb').1),znj eb⟩
theorem zdB:FnScope ["chores","hands","turn","numbers"] ["chores","hands","turn"] (zac zbs):=⟨rfl,rfl,rfl,by decide +kernel,rfl,by decide +kernel,by decide +kernel⟩
theorem zfX (D:Dfn K mg "turn_done" zbs ["chores","hands","turn"] f fd) (T:Txt K mg) (zbP:Cal P w K mg base "numbers_worked" 8 ["chores","hands","turn"] (zhm K tT)) (zaW:Cal P w K mg base "chores_behind" 1 ["chores","numbers"] (ze9 K)):Cal P w K mg base "turn_done" 9 ["chores","hands","turn"] (zkS K tT):=by
 refine D.cal (D.F.ok zdB (fun vs H Q E h=>?_) (fun cdv A outer s H vs Q E hr h=>?_))
 ·obtain ⟨l,xs,h,t,rfl,_⟩:=h
  rfl
 obtain ⟨l,xs,h,t,rfl,hx,h0,hT,q⟩:=h
 refine ⟨_,(zad (zan (i:=3) zdB.nd rfl (Or.inl rfl) (zam zbP (hr.mono (by decide)) rfl (zaa (pv 0) (zaa (pv 1) (zaa (pv 2) zae)))))
  (zaf (zat (zaZ (zaa (pv 3) (zaa (zam zaW (hr.mono (by decide)) rfl (zaa (pv 0) (zaa (pv 3) zae))) zae)))))),?_⟩
 refine ⟨_,rfl,_,rfl,_,rfl,l,xs,h,t,rfl,hx,h0,hT,fun m H1 s1 n1 h1=>?_⟩
 refine ⟨_,rfl,_,rfl,_,rfl,l,m,xs,_,rfl,hx.same s1,h1,fun D H2 bs s2 nD B=>?_⟩
 rw [ziM hx.chs s1] at B
 have mD:m≠D:=fun z=>by rw [←z,h1] at nD;cases nD
 exact ⟨sz 2 (by decide),fun p H3 s3 n3 h3=>q p m D H3 bs (s1.trans (s2.trans s3)) h3 n1 (Same.free s1 nD) mD (s3 _ _ (s2 _ _ h1)) (B.same s3)⟩
theorem zgv:FnScope ["thing","low","high"] ["thing","low","high"] (zac zbB):=⟨rfl,rfl,rfl,by decide +kernel,rfl,by decide +kernel,by decide +kernel⟩
theorem zgw (D:Dfn K mg "is_whole" zbB ["thing","low","high"] f fd) (T:Txt K mg):Cal P w K mg base "is_whole" 1 ["thing","low","high"] zhn:=by
 refine D.cal (D.F.ok zgv (fun vs H Q E h=>?_) (fun cdv A outer s H vs Q E hr h=>?_))
 ·obtain ⟨i,lo,hi,rfl,_⟩:=h
  rfl
 obtain ⟨i,lo,hi,rfl,q⟩:=h
 refine ⟨_,(zad (zcf (PW.pt (zl1 (zfo (zaU (zgV (n := "bool")) rfl T.zdA zc0 (zaa (pv 0) (zaa (zhY (v:=.ty "bool") rfl T.zmP zli rfl) zae)))) (zkp (zgM (zfo (zaU (zgV (n := "int")) rfl T.zdA zc0 (zaa (pv 0) (zaa (zhY (v:=.ty "int") rfl T.zi6 zfC rfl) zae)))))))) (zaf (zat zdS)) zaY)
  (zaf (zat (zju zh4 zh4 (pv 1) (pv 0) (pv 2))))),?_⟩
 refine ⟨_,rfl,_,_,_,rfl,.int i,T.zcd,_,rfl,iteF ?_⟩
 refine ⟨_,rfl,_,_,_,rfl,.int i,T.zcy,_,rfl,iteF ?_⟩
 refine ⟨_,rfl,_,rfl,_,_,rfl,rfl,_,rfl,?_⟩
 refine ite2 (fun c=>?_) (fun c=>?_)
 ·rw [c,Bool.true_and] at q
  exact ⟨_,rfl,_,_,rfl,rfl,q⟩
 ·rw [Bool.eq_false_iff.mpr c,Bool.false_and] at q
  exact q
theorem zcl:FnScope ["chore","real","number","turns"] ["chore","real"] (zac zbd):=⟨rfl,rfl,rfl,by decide +kernel,rfl,by decide +kernel,by decide +kernel⟩
theorem zfa (D:Dfn K mg "work_taken" zbd ["chore","real"] f fd) (T:Txt K mg) (zdq:Cal P w K mg base "is_whole" 1 ["thing","low","high"] zhn):Cal P w K mg base "work_taken" 4 ["chore","real"] (zho P w K mg base):=by
 refine D.cal (D.F.ok zcl (fun vs H Q E h=>?_) (fun cdv A outer s H vs Q E hr h=>?_))
 ·obtain ⟨p,f,y,L,rfl,_⟩:=h
  rfl
 obtain ⟨p,f,y,L,rfl,hy,y0,F,⟨r,hv,r0⟩,q⟩:=h
 refine ⟨_,(zad (zan (i:=2) zcl.nd rfl (Or.inl rfl) (zau zao (zau zao (pv 0) zab (fun _ _=>rfl)) zab (fun _ _=>rfl)))
  (zad (zan (i:=3) zcl.nd rfl (Or.inl rfl) (zly (k:=3) (i:=1) (hr.mono (by decide)) (zaa (pv 2) zae)))
  (zad (zcf (zgM (zfo (zam zdq (hr.mono (by decide)) rfl (zaa (pv 3) (zaa zab (zaa (pv 3) zae)))))) (zaf zjq) zaY)
  (zaf (zat (zaU (zfs rfl) rfl T.zlR zii (zaa (pv 3) (zaa (zau zao (pv 0) zab (fun _ _=>rfl)) zae)))))))),?_⟩
 obtain ⟨k1,k2⟩:=hy.kc
 obtain ⟨_,_,c1,_,_⟩:=id k2.ex
 refine ⟨_,rfl,p,_,_,_,rfl,rfl,SqT.of k1,rfl,_,_,_,_,rfl,rfl,SqT.of c1,rfl,?_⟩
 refine ⟨f,rfl,_,rfl,spWk L,F,y.1.n,r,rfl,hv,?_⟩
 refine ⟨_,rfl,_,rfl,r,0,r,rfl,?_⟩
 rw [decide_eq_true r0,decide_eq_true (Int.le_refl r)]
 refine ⟨_,rfl,iteF ?_⟩
 refine ⟨_,rfl,_,rfl,p,_,_,_,rfl,rfl,SqT.of k1,rfl,_,_,rfl,?_⟩
 unfold tkN at q
 rw [hv] at q
 exact q
theorem zei:FnScope ["chores","real"] ["chores","real"] (zac zaR):=⟨rfl,rfl,rfl,by decide +kernel,rfl,by decide +kernel,by decide +kernel⟩
theorem zej (D:Dfn K mg "chores_taken" zaR ["chores","real"] f fd) (T:Txt K mg) (zcA:Cal P w K mg base "work_taken" 4 ["chore","real"] (zho P w K mg base)):Cal P w K mg base "chores_taken" 5 ["chores","real"] (zi9 P w K mg base):=by
 refine D.cal (D.F.ok zei (fun vs H Q E h=>?_) (fun cdv A outer s H vs Q E hr h=>?_))
 ·obtain ⟨l,r,xs,c,rfl,_⟩:=h
  rfl
 obtain ⟨l,r,xs,c,rfl,hI,hR,q⟩:=h
 refine ⟨_,(zad (zcf (zaw zma (pv 1) zhX (zay _)) (zaf (zat (pv 0))) zaY)
  (zaf (zat (zbS (N:=["chore","real"]) (js:=[1]) rfl (CompScope.of rfl rfl rfl rfl rfl (by decide +kernel) rfl rfl rfl rfl) (za6 (pv 0)) (fun _ _ _ _ _=>zc1) (fun _ _ _ _ _=>(zaZ (zaa (zau (r:=rIxT K) zao (pv 0) zab (fun _ _=>rfl)) (zaa (zam zcA (hr.mono (by decide)) rfl (zaa (pv 0) (zaa (pv 1) zae))) zae)))))))),?_⟩
 rcases hR with ⟨rfl,rfl⟩ | ⟨f,L,rfl,F,kn,rfl⟩
 ·exact ⟨_,rfl,rfl,_,rfl,iteT ⟨_,rfl,q l H xs (Same.refl _) hI rfl⟩⟩
 ·refine ⟨_,rfl,rfl,_,rfl,iteF ?_⟩
  have ml:(xs.map fun q=>V.ref q.1).length=xs.length:=List.length_map _
  have x40:=hI.len
  refine ⟨_,rfl,l,rfl,⟨_,SqL.of hI.chs.at_⟩,?_⟩
  refine zhK (xs:=xs.map fun q=>V.ref q.1) (fun i t=>∃k r,xs[i]?=some k∧t=[.ref (kcOf H k.1),.int r]∧0≤r∧r≤k.2.2∧r=tkN L k.2) (SqL.of hI.chs.at_) (fun i x Hh Q' hx sh q'=>q' Hh (Same.refl _)) ?_ (zaF (by rw [ml];omega)) (fun D H2 bs s2 nD hD lb rb hb=>?_)
  ·intro i x Hh Q' hi sh q'
   rw [List.getElem?_map] at hi
   cases e:xs[i]? with
   | none=>rw [e] at hi;cases hi
   | some k=>
     rw [e] at hi
     cases hi
     have hk:=List.mem_of_getElem? e
     obtain ⟨k1,k2⟩:=(hI.chs.ch k hk).kc
     have l0:=(hI.ok k hk).l0
     obtain ⟨r,hr,r0⟩:=kn k hk
     have t0:0≤tkN L k.2∧tkN L k.2≤k.2.2:=by
      unfold tkN
      rw [hr]
      show 0≤(if k.2.2<r then k.2.2 else r)∧(if k.2.2<r then k.2.2 else r)≤k.2.2
      split<;>omega
     refine ⟨_,rfl,k.1,_,_,_,rfl,rfl,SqT.of (sh _ _ k1),rfl,_,rfl,_,rfl,k.1,f,k.2,L,rfl,(hI.chs.ch k hk).same sh,l0,F.same sh,kn k hk,⟨sz 2 (by decide),fun b H3 s3 n3 h3=>q' b _ H3 s3 ⟨k,_,e,rfl,t0.1,t0.2,rfl⟩ h3⟩⟩
  rw [ml] at lb
  have R:∀i,i<bs.length→∃y:Addr × Cl × Int,∃b k,bs[i]?=some b∧xs[i]?=some k∧y.1=b.1∧y.2.1=k.2.1∧b.2=[.ref (kcOf H k.1),.int y.2.2]∧0≤y.2.2∧y.2.2≤k.2.2∧y.2.2=tkN L k.2:=fun i hi=>by
   have e:=List.getElem?_eq_getElem hi
   obtain ⟨k,r,e1,e2,e3,e4,e5⟩:=rb i _ e
   exact ⟨(bs[i].1,k.2.1,r),bs[i],k,e,e1,rfl,rfl,e2,e3,e4,e5⟩
  obtain ⟨ys,ly,ry⟩:=zci _ bs.length R
  have mem:∀y,y∈ys→∃b k,b∈bs∧k∈xs∧y.1=b.1∧y.2.1=k.2.1∧b.2=[.ref (kcOf H k.1),.int y.2.2]∧0≤y.2.2∧y.2.2≤k.2.2∧y.2.2=tkN L k.2:=fun y hy=>by
   obtain ⟨i,hi,ei⟩:=List.getElem_of_mem hy
   have e:=List.getElem?_eq_getElem hi
   rw [ei] at e
   obtain ⟨b,k,e1,e2,r⟩:=ry i y e
   exact ⟨b,k,List.mem_of_getElem? e1,List.mem_of_getElem? e2,r⟩
  have er:(ys.map fun q=>V.ref q.1)=bs.map fun b=>V.ref b.1:=by
   refine List.ext_getElem? fun i=>?_
   rw [List.getElem?_map,List.getElem?_map]
   cases e:ys[i]? with
   | none=>
     have:=List.getElem?_eq_none_iff.mp e
     rw [List.getElem?_eq_none (l:=bs) (by omega)]
     rfl
   | some y=>
     obtain ⟨b,k,e1,_,e3,_⟩:=ry i y e
     rw [e1]
     exact congrArg (fun z=>some (V.ref z)) e3
  have ec:ys.map (·.2.1)=xs.map (·.2.1):=by
   refine List.ext_getElem? fun i=>?_
   rw [List.getElem?_map,List.getElem?_map]
   cases e:ys[i]? with
   | none=>
     have:=List.getElem?_eq_none_iff.mp e
     rw [List.getElem?_eq_none (l:=xs) (by omega)]
   | some y=>
     obtain ⟨b,k,_,e2,_,e4,_⟩:=ry i y e
     rw [e2]
     exact congrArg some e4
  have et:ys.map (·.2)=takC L (xs.map (·.2)):=by
   unfold takC
   rw [List.map_map]
   refine List.ext_getElem? fun i=>?_
   rw [List.getElem?_map,List.getElem?_map]
   cases e:ys[i]? with
   | none=>
     have:=List.getElem?_eq_none_iff.mp e
     rw [List.getElem?_eq_none (l:=xs) (by omega)]
     rfl
   | some y=>
     obtain ⟨b,k,_,e2,_,e4,_,_,_,e8⟩:=ry i y e
     rw [e2]
     show some y.2=some (k.2.1,tkN L k.2)
     rw [←e4,←e8]
  refine q D H2 ys s2 ⟨⟨by rw [er];exact hD,fun y hy=>?_⟩,by rw [ly,lb];exact x40,fun y hy=>?_,?_⟩ et
  ·obtain ⟨b,k,b1,b2,b3,b4,b5,_⟩:=mem y hy
   refine ⟨kcOf H k.1,?_,?_⟩
   ·rw [b3,hb b b1,b5]
   ·rw [b4]
    exact (hI.chs.ch k b2).kc.2.same s2
  ·obtain ⟨b,k,b1,b2,b3,b4,b5,b6,b7,_⟩:=mem y hy
   have o:=hI.ok k b2
   exact ⟨by rw [b4];exact o.ok,b6,Int.le_trans b7 o.l1,by rw [b4];exact o.cm⟩
  ·have:=congrArg (List.map (·.n)) ec
   rw [List.map_map,List.map_map] at this
   have e2:ys.map (·.2.1.n)=xs.map (·.2.1.n):=this
   rw [e2]
   exact hI.nd
theorem zbX:FnScope ["chores","hands","begin","real","left","turn","rows","step"] ["chores","hands","begin","real"] (zac zcj):=⟨rfl,rfl,rfl,by decide +kernel,rfl,by decide +kernel,by decide +kernel⟩
theorem zja (D:DfnD K mg "run_of" zcj ["chores","hands","begin","real"] f fd) (T:Txt K mg) (zaW:Cal P w K mg base "chores_behind" 1 ["chores","numbers"] (ze9 K)) (zcT:Cal P w K mg base "turn_done" 9 ["chores","hands","turn"] (zkS K tT)) (zca:Cal P w K mg base "chores_taken" 5 ["chores","real"] (zi9 P w K mg base)):CalD P w K mg base "run_of" 10 ["chores","hands","begin","real"] (zmV P w K mg base tT):=by
 refine D.cal (D.F.ok zbX (fun vs H Q E h=>?_) (fun cdv A outer s H vs Q E hr h=>?_))
 ·obtain ⟨l,xs,h,b,r,c,rfl,_⟩:=h
  rfl
 obtain ⟨l0,xs0,h,b,rv,cc,rfl,hI0,h0,b0,b1,hT0,hR,q0⟩:=h
 refine ⟨_,(zad (zan (i:=4) zbX.nd rfl (Or.inl rfl) (zam zaW (hr.mono (by decide)) rfl (zaa (zam zca (hr.mono (by decide)) rfl (zaa (pv 0) (zaa (pv 3) zae))) (zaa (zbb zae) zae))))
  (zad (zan (i:=5) zbX.nd rfl (Or.inl rfl) (pv 2))
  (zad (zan (i:=6) zbX.nd rfl (Or.inl rfl) (zbb zae))
  (zad (zgO PassesOwn.never (PW.pt (zgL (zaw zcs (zaU zba rfl T.zgu zdY (zaa (pv 4) zae)) zab (zay _)) (zeN (zaw zcs (pv 1) zab (zay _))))) (zad (zan (i:=7) zbX.nd rfl (Or.inl rfl) (zam zcT (hr.mono (by decide)) rfl (zaa (pv 4) (zaa (pv 1) (zaa (pv 5) zae)))))
  (zad (zeP (zle PySem.F.plainAttrs_list PySem.F.slot_list_append PySem.F.type_list_append zdc (pv 6) (zaa (zaZ (zaa (pv 5) (zaa (zau zao (pv 7) zab (fun _ _=>rfl)) zae))) zae)))
  (zad (zan (i:=4) zbX.nd rfl (Or.inl rfl) (zau zao (pv 7) zab (fun _ _=>rfl)))
  (zaf (zl3 (i:=5) zbX.nd rfl (Or.inl rfl) zab zl4))))))
  (zaf (zat (pv 6))))))),?_⟩
 refine ⟨_,rfl,_,rfl,l0,rv,xs0,cc,rfl,hI0,hR,fun l H01 xs s01 hI ec=>?_⟩
 subst ec
 have hT:=s01 _ _ hT0
 have q:∀D H' rs,Same H01 H'→H01 D=none→RunOf H01 H' h.toNat b (xs.map (·.2)) D rs→(∀r,r∈rs→r.2.2.2.length≤40)→rs.length≤1481→Q (.ref D) H':=fun D H' rs s n R l40 l14=>q0 D H' rs (s01.trans s) (Same.free s01 n) ⟨R.run,fun r hr=>Same.free s01 (R.new r hr),R.ne,R.eq⟩ l40 l14
 refine ⟨sz 0 (by decide),fun l1 H1 s1 n1 h1=>?_⟩
 refine ⟨l,l1,xs,[],rfl,hI.same s1,h1,fun D1 H2 bs s2 nD1 B=>?_⟩
 obtain ⟨hI2,e2⟩:=(hI.same s1).next s2 B
 refine ⟨_,rfl,sz 0 (by decide),fun D H3 s3 n3 h3=>?_⟩
 have s02:=s1.trans s2
 generalize hc0:bhC [] (xs.map (·.2))=c0 at e2
 have hn:0<h.toNat:=by omega
 have s480:sumC c0≤480:=by rw [←e2];exact hI2.sum
 refine zgP (fun σ' H'=>∃(l':Addr) (xs':List (Addr × Cl × Int)) (rs:List (Addr × Addr × Int × List Int)) (n:Nat) (v7:Option V),σ'=[some (.ref l0),some (.int h),some (.int b),some rv,some (.ref l'),some (.int (b+n)),some (.ref D),v7]∧Same H2 H'∧ChIn K H' l' xs'∧xs'.map (·.2)=(runN h.toNat n b c0).2∧(∀k,k∈(runN h.toNat n b c0).2→0<k.2)∧IsRun H' D rs∧rs.map (fun r=>(r.2.2.1,r.2.2.2))=(runN h.toNat n b c0).1∧(∀r,r∈rs→H2 r.2.1=none∧r.2.1≠D∧r.2.2.2.length≤40)∧(∀k,k<n→(runN h.toNat k b c0).2≠[])∧n+(sumC (runN h.toNat n b c0).2+(1001-(b+n)).toNat)≤sumC c0+(1001-b).toNat)
  (fun σ' _=>match σ' with | [_,_,_,_,_,some (.int t),_,_]=>sumC (runN h.toNat (t-b).toNat b c0).2+(1001-t).toNat | _=>0) ?_ ?_ ?_
 ·refine ⟨D1,_,[],0,_,by rw [show b+((0:Nat):Int)=b by omega];rfl,s3,hI2.same s3,e2,?_,⟨h3,fun r hr=>by simp at hr,fun r hr=>by simp at hr⟩,rfl,fun r hr=>by simp at hr,fun k hk=>by omega,by show 0+(sumC c0+(1001-(b+((0:Nat):Int))).toNat)≤_;omega⟩
  show ∀k,k∈c0→0<k.2
  rw [←hc0]
  exact fun k hk=>zd8 hk
 ·rintro σ' H4 ⟨l',xs',rs,n,v7,rfl,s4,hI4,ex,pos,R,er,hr,ln,rl⟩
  have mx:(xs'.map fun q=>V.ref q.1).length=xs'.length:=List.length_map _
  refine ⟨_,rfl,l',_,rfl,.inl (SqL.of hI4.chs.at_),_,_,rfl,rfl,_,rfl,?_⟩
  rw [mx]
  have lrs:rs.length=n:=by
   have:=congrArg List.length er
   rw [List.length_map,zeW] at this
   exact this
  cases exs:xs' with
  | nil=>
    subst exs
    refine zfE (by simp) (iteF ?_)
    refine ⟨_,rfl,q D H4 rs (s02.trans s4) (Same.free s02 n3) ⟨R,fun r h'=>Same.free s02 (hr r h').1,fun r h'=>(hr r h').2.1,n,by rw [hc0];exact er,by rw [hc0];exact ex.symm,by rw [hc0];exact ln⟩ (fun r h'=>(hr r h').2.2) (by rw [lrs];omega)⟩
  | cons x0 xt=>
    rw [←exs]
    have ne:(runN h.toNat n b c0).2≠[]:=by rw [←ex,exs];simp
    refine iteD (by rw [exs,List.length_cons];omega) ?_
    refine ⟨_,rfl,_,_,rfl,rfl,_,rfl,iteD h0 ?_⟩
    refine ⟨_,rfl,_,rfl,_,rfl,l',xs',h,_,rfl,hI4,by omega,s4 _ _ (s02 _ _ hT),fun p m2 D2 H5 bs2 s5 hp nm nD2 mD hm2 B2=>?_⟩
    have R5:=R.same s5
    have m2D:m2≠D:=fun z=>by rw [z,R.at_] at nm;cases nm
    refine ⟨_,rfl,.inl ⟨rfl,_,SqL.of R5.at_⟩,_,rfl,_,rfl,p,_,_,_,rfl,rfl,SqT.of hp,rfl,sz 2 (by decide),fun p6 H6 s6 n6 h6=>?_⟩
    have R6:=R5.same s6
    refine ⟨D,_,_,rfl,rfl,R6.at_,?_,fun H7 k7 h7=>?_⟩
    ·rw [List.length_map,lrs]
     have z:(100000:Nat)≤sizeLine:=by decide
     omega
    have hp6:=s6 _ _ hp
    have hp7:=k7 _ _ (fun z=>by rw [z,R6.at_] at hp6;cases hp6) hp6
    refine ⟨_,rfl,p,_,_,_,rfl,rfl,SqT.of hp7,rfl,?_⟩
    obtain ⟨hI5,e5⟩:=hI4.next s5 B2
    have D2D:D2≠D:=fun z=>by rw [z,R.at_] at nD2;cases nD2
    have B6:=B2.same s6
    have B7:IsBh H7 D2 (behL H4 (zdg (b+n) h.toNat xs') xs') bs2:=⟨k7 _ _ D2D B6.at_,fun c hc=>k7 _ _ (fun z=>by have:=B6.rw c hc;rw [z,R6.at_] at this;cases this) (B6.rw c hc),B6.eq⟩
    have s47:Same H2 H7:=(s4.trans (s5.trans s6)).but n3 k7
    have hI7:ChIn K H7 D2 (zipB bs2 (behL H4 (zdg (b+n) h.toNat xs') xs')):=by
     have hI6:=hI5.same s6
     exact ⟨hI6.chs.but k7 R6.at_ D2D,hI6.len,hI6.ok,hI6.nd⟩
    have ew:zdg (b+n) h.toNat xs'=wkC (b+n) h.toNat (runN h.toNat n b c0).2:=by rw [zlu,ex]
    have dn:=zjT (t:=b+n) hn ne pos (by rw [←ex];exact hI4.cm)
    refine ⟨_,rfl,_,_,rfl,rfl,⟨D2,zipB bs2 (behL H4 (zdg (b+n) h.toNat xs') xs'),rs++[(p6,m2,b+n,zdg (b+n) h.toNat xs')],n+1,_,by rw [show b+((n+1:Nat):Int)=b+n+1 by omega];rfl,s47,hI7,?_,?_,?_,?_,?_,?_,?_⟩,?_⟩
    ·rw [e5,ex,zaV,ew]
    ·rw [zaV]
     exact fun k hk=>zd8 hk
    ·exact R6.app k7 h7 h6 (s6 _ _ hm2) m2D fun r h'=>(hr r h').2.1
    ·rw [List.map_append,er,zaV,←ew]
     rfl
    ·intro r h'
     rcases List.mem_append.mp h' with h' | h'
     ·exact hr r h'
     ·rw [List.mem_singleton.mp h']
      exact ⟨Same.free s4 nm,m2D,zmW hI4 _ _⟩
    ·intro k hk
     by_cases kn:k=n
     ·subst kn
      exact ne
     ·exact ln k (by omega)
    ·rw [zaV]
     show n+1+(sumC (bhC (wkC (b+n) h.toNat (runN h.toNat n b c0).2) (runN h.toNat n b c0).2)+(1001-(b+((n+1:Nat):Int))).toNat)≤_
     omega
    ·show sumC (runN h.toNat (b+n+1-b).toNat b c0).2+(1001-(b+n+1)).toNat<sumC (runN h.toNat (b+n-b).toNat b c0).2+(1001-(b+n)).toNat
     rw [show (b+(n:Int)+1-b).toNat=n+1 by omega,show (b+(n:Int)-b).toNat=n by omega,zaV]
     exact dn
 ·intro σ' H' Q1 Q2 hq h
  obtain ⟨v1,e1,a,ys,e3,hs,i,j,e4,e5,bb,eb,h⟩:=h
  refine ⟨v1,e1,a,ys,e3,hs,i,j,e4,e5,bb,eb,?_⟩
  by_cases c:bb=true
  ·rw [if_pos c] at h ⊢
   obtain ⟨w1,f1,i2,j2,f3,f4,b2,f5,h⟩:=h
   exact ⟨w1,f1,i2,j2,f3,f4,b2,f5,hq _ _ h⟩
  ·rw [if_neg c] at h ⊢
   exact hq _ _ h
def lfX (xs:List (Addr × Cl × Int)):List (Int × Int):=xs.map fun k=>(k.2.1.n,k.2.2)
theorem zfY {H:Hp} {l:Addr} {xs:List (Addr × Cl × Int)} (h:ChIn K H l xs):((lfX xs).map (·.1)).Nodup:=by
 unfold lfX
 rw [List.map_map]
 exact h.nd
def zgx (K:PySem.W.Frag):Sp:=fun vs H Q _=>∃(l:Addr) (xs:List (Addr × Cl × Int)),vs=[.ref l]∧ChIn K H l xs∧∀d H',Same H H'→H d=none→H' d=some (.dK (dI (lfX xs)))→Q (.ref d) H'
theorem zhp {L:List (Int × Int)} {bs:List (Addr × List V)} (eb:bs.map (·.2)=L.map fun p=>[V.int p.1,V.int p.2]):∃cs:List (Addr × Key × V),(cs.map fun b=>V.ref b.1)=(bs.map fun b=>V.ref b.1)∧cs.map (·.2)=dI L∧∀c,c∈cs→∃b,b∈bs∧b.1=c.1∧b.2=[kV c.2.1,c.2.2]:=by
 refine ⟨List.zipWith (fun b p=>(b.1,(Sum.inl p.1:Key),V.int p.2)) bs L,?_,?_,fun c hc=>?_⟩
 ·have hl:bs.length=L.length:=by
   have:=congrArg List.length eb
   rw [List.length_map,List.length_map] at this
   exact this
  rw [List.map_zipWith]
  refine List.ext_getElem (by simp [hl]) fun i h1 h2=>?_
  simp
 ·have hl:bs.length=L.length:=by
   have:=congrArg List.length eb
   rw [List.length_map,List.length_map] at this
   exact this
  unfold dI
  rw [List.map_zipWith]
  refine List.ext_getElem (by simp [hl]) fun i h1 h2=>?_
  simp
 ·obtain ⟨i,hi,ei⟩:=List.getElem_of_mem hc
  have hi2:i<bs.length∧i<L.length:=by
   rw [List.length_zipWith] at hi
   omega
  have e:=congrArg (fun l:List (List V)=>l[i]?) eb
  simp [hi2.1,hi2.2] at e
  have ec:c=(bs[i].1,(Sum.inl L[i].1:Key),V.int L[i].2):=by
   rw [←ei,List.getElem_zipWith]
  subst ec
  exact ⟨bs[i],List.getElem_mem hi2.1,rfl,e⟩
theorem zdG:FnScope ["chores"] ["chores"] (zac zaJ):=⟨rfl,rfl,rfl,by decide +kernel,rfl,by decide +kernel,by decide +kernel⟩
theorem zdH (D:Dfn K mg "left_at_first" zaJ ["chores"] f fd) (T:Txt K mg):Cal P w K mg base "left_at_first" 1 ["chores"] (zgx K):=by
 refine D.cal (D.F.ok zdG (fun vs H Q E h=>?_) (fun cdv A outer s H vs Q E hr h=>?_))
 ·obtain ⟨l,xs,rfl,_⟩:=h
  rfl
 obtain ⟨l,xs,rfl,hI,q⟩:=h
 refine ⟨_,(zaf (zat (zbK (zcH hr.hd) rfl T.zhg zeT (zaa (zbS (N:=["chore"]) (js:=[]) rfl (CompScope.of rfl rfl rfl rfl rfl (by decide +kernel) rfl rfl rfl rfl) (za6 (pv 0)) (fun _ _ _ _ _=>zc1) (fun _ _ _ _ _=>(zaZ (zaa (zau (r:=rIxT K) zao (zau (r:=rIxT K) zao (pv 0) zab (fun _ _=>rfl)) zab (fun _ _=>rfl)) (zaa (zau (r:=rIxT K) zao (pv 0) zab (fun _ _=>rfl)) zae))))) zae)))),?_⟩
 have ml:(xs.map fun q=>V.ref q.1).length=xs.length:=List.length_map _
 refine ⟨_,rfl,l,rfl,⟨_,SqL.of hI.chs.at_⟩,?_⟩
 refine zfK (xs:=xs.map fun q=>V.ref q.1) (tak xs fun _=>true) (itl xs fun k=>[V.int k.2.1.n,V.int k.2.2]) (SqL.of hI.chs.at_) ?_ ?_ (zaF (by rw [ml];have:=hI.len;omega)) (fun D H1 bs s1 nD hD eb hb=>?_)
 ·intro j x Hh Q' hxj sh q'
  have z:=q' Hh (Same.refl _)
  unfold tak at z
  rw [List.getElem?_map] at hxj
  cases ek:xs[j]? with
  | none=>rw [ek] at hxj;cases hxj
  | some k=>
    rw [ek] at z
    exact z
 ·intro i x Hh Q' hx _ sh q'
  rw [List.getElem?_map] at hx
  cases e:xs[i]? with
  | none=>rw [e] at hx;cases hx
  | some k=>
    rw [e] at hx
    cases hx
    obtain ⟨k1,k2⟩:=(hI.chs.ch k (List.mem_of_getElem? e)).kc
    obtain ⟨_,_,c1,_,_⟩:=id k2.ex
    refine ⟨_,rfl,k.1,_,_,_,rfl,rfl,SqT.of (sh _ _ k1),rfl,_,_,_,_,rfl,rfl,SqT.of (sh _ _ c1),rfl,_,rfl,k.1,_,_,_,rfl,rfl,SqT.of (sh _ _ k1),rfl,sz 2 (by decide),fun b H3 s3 n3 h3=>q' b H3 s3 ?_⟩
    rw [h3]
    unfold itl
    rw [e]
 rw [ml,zde,zdQ] at eb
 obtain ⟨cs,c1,c2,c3⟩:=zhp (L:=lfX xs) (bs:=bs) (by rw [eb];unfold lfX;rw [List.map_map];rfl)
 refine ⟨D,cs,rfl,by rw [c1];exact hD,fun c hc=>?_,fun d H2 s2 nd hd=>q d H2 (s1.trans s2) (Same.free s1 nd) ?_⟩
 ·obtain ⟨b,b1,b2,b3⟩:=c3 c hc
  rw [←b2,hb b b1,b3]
 ·rw [hd,c2,zkL (zfY hI)]
theorem Rd.but {H H':Hp} {a b:Addr} {u:HO} (h:Rd H a u) (k:But b H H') (n:a≠b):Rd H' a u:=h.imp (k _ _ n) fun ⟨o,z⟩=>⟨o,k _ _ n z⟩
theorem Rd.same {H H':Hp} {a:Addr} {u:HO} (h:Rd H a u) (s:Same H H'):Rd H' a u:=h.imp (s _ _) fun ⟨o,z⟩=>⟨o,s _ _ z⟩
theorem Rd.ne {H:Hp} {a b:Addr} {u:HO} (h:Rd H a u) (n:H b=none):a≠b:=fun z=>by
 subst z
 rcases h with h | ⟨_,h⟩<;>rw [n] at h<;>cases h
def zjb (K:PySem.W.Frag):Sp:=fun vs H Q _=>∃(d m:Addr) (L:List (Int × Int)) (ws:List Int),vs=[.ref d,.ref m]∧Rd H d (.dK (dI L))∧H m=some (.lst (ws.map V.int))∧(L.map (·.1)).Nodup∧L.length≤40∧∀e H',But d H H'→H e=none→H' e=some (.dK (dI (L.map (zb1 ws))))→e≠d→Q (.ref e) H'
theorem zet:FnScope ["left","numbers"] ["left","numbers"] (zac za0):=⟨rfl,rfl,rfl,by decide +kernel,rfl,by decide +kernel,by decide +kernel⟩
theorem zeu (D:Dfn K mg "left_behind" za0 ["left","numbers"] f fd) (T:Txt K mg):Cal P w K mg base "left_behind" 1 ["left","numbers"] (zjb K):=by
 refine D.cal (D.F.ok zet (fun vs H Q E h=>?_) (fun cdv A outer s H vs Q E hr h=>?_))
 ·obtain ⟨d,m,L,ws,rfl,_⟩:=h
  rfl
 obtain ⟨d,m,L,ws,rfl,hd,hm,nd,l40,q⟩:=h
 refine ⟨_,(zaf (zat (zbK (zcH hr.hd) rfl T.zhg zeT (zaa (zbS (N:=["number","left","numbers"]) (js:=[0,1]) rfl (CompScope.of rfl rfl rfl rfl rfl (by decide +kernel) rfl rfl rfl rfl) (zeX (pv 0)) (fun _ _ _ _ _=>zc1) (fun _ _ _ _ _=>(zaZ (zaa (pv 0) (zaa (zeO (zaw (zkE (K:=K) rfl) (pv 0) (pv 2) rfl) (zaU (zfr rfl) rfl T.zmQ zkx (zaa (zai zfp (zct hr.units1 (pv 1) (pv 0) (fun _ _=>rfl)) zab) (zaa zab zae))) (zct hr.units1 (pv 1) (pv 0) (fun _ _=>rfl))) zae))))) zae)))),?_⟩
 have fl:(ws.map V.int).all zcL=true:=List.all_eq_true.mpr fun y hy=>by obtain ⟨i,_,rfl⟩:=List.mem_map.mp hy;rfl
 have dm:m≠d:=fun z=>by
  subst z
  rcases hd with hd | ⟨_,hd⟩<;>rw [hd] at hm<;>cases hm
 refine ⟨_,rfl,d,_,rfl,hd,fun ob H1 k1 h1=>?_⟩
 have hm1:=k1 _ _ dm hm
 have vL:∀p,p∈L→valI L p.1=some p.2:=fun p hp=>by
  unfold valI
  clear hd h1 q l40
  induction L with
  | nil=>cases hp
  | cons x L ih=>
    rw [List.map_cons,List.nodup_cons] at nd
    rcases List.mem_cons.mp hp with rfl | hp
    ·rw [List.find?_cons_of_pos (by simp)]
     rfl
    ·have ne:¬x.1=p.1:=fun z=>nd.1 (by rw [z];exact List.mem_map.mpr ⟨p,hp,rfl⟩)
     rw [List.find?_cons_of_neg (by simpa using ne)]
     exact ih nd.2 hp
 refine zhJ (tak L fun _=>true) (itl L fun p=>[V.int p.1,V.int (zb1 ws p).2]) h1 ?_ ?_ (zaF (by rw [zdw];omega)) (fun D H2 bs s2 nD hD eb hb=>?_)
 ·intro i kv Hh Q' hi sh q'
  have z:=q' Hh (Same.refl _)
  unfold tak at z
  unfold dI at hi
  rw [List.getElem?_map] at hi
  cases e:L[i]? with
  | none=>rw [e] at hi;cases hi
  | some p=>
    rw [e] at z
    exact z
 ·intro i kv Hh Q' hi _ sh q'
  unfold dI at hi
  rw [List.getElem?_map] at hi
  cases e:L[i]? with
  | none=>rw [e] at hi;cases hi
  | some p=>
    rw [e] at hi
    cases hi
    have g:=zc2 (.inr ⟨ob,sh _ _ h1⟩) p.1
    rw [vL p (List.mem_of_getElem? e)] at g
    have z:∀b Hh',Same Hh Hh'→Hh' b=some (.tup [V.int p.1,V.int (zb1 ws p).2])→Q' (.ref b) Hh':=fun b H' s' h'=>q' b H' s' (by rw [h'];unfold itl;rw [e])
    have ei:(if false=true then !inV (.int p.1) (ws.map V.int) else inV (.int p.1) (ws.map V.int))=decide (p.1∈ws):=by
     rw [if_neg Bool.false_ne_true]
     exact zgm
    refine ⟨_,rfl,_,rfl,_,rfl,m,_,rfl,.inl (SqL.of (sh _ _ hm1)),rfl,fl,decide (p.1∈ws),congrArg V.bl ei,?_⟩
    by_cases c:p.1∈ws
    ·refine iteD c ?_
     refine ⟨_,rfl,_,rfl,d,_,rfl,g,_,_,rfl,rfl,_,_,rfl,sz 2 (by decide),fun b H3 s3 n3 h3=>z b H3 s3 ?_⟩
     rw [h3]
     unfold zb1
     rw [if_pos c]
     congr 5
     split<;>split<;>omega
    ·refine zfE c ?_
     refine ⟨_,rfl,_,rfl,d,_,rfl,g,sz 2 (by decide),fun b H3 s3 n3 h3=>z b H3 s3 ?_⟩
     rw [h3]
     unfold zb1
     rw [if_neg c]
     rfl
 rw [zdw,zde,zdQ] at eb
 obtain ⟨cs,c1,c2,c3⟩:=zhp (L:=L.map (zb1 ws)) (bs:=bs) (by rw [eb,List.map_map];rfl)
 refine ⟨D,cs,rfl,by rw [c1];exact hD,fun c hc=>?_,fun e H3 s3 ne he=>q e H3 (k1.trans (s2.trans s3).toBut) ?_ ?_ ?_⟩
 ·obtain ⟨b,b1,b2,b3⟩:=c3 c hc
  rw [←b2,hb b b1,b3]
 ·refine But.free k1 h1 (Same.free s2 ne)
 ·rw [he,c2,zkL]
  rw [List.map_map]
  exact nd
 ·intro z
  rw [z,s2 _ _ h1] at ne
  cases ne
theorem zjc {l:List Int} (nd:l.Nodup) {i j:Nat} {x:Int} (a:l[i]?=some x) (b:l[j]?=some x):i=j:=by
 obtain ⟨h1,e1⟩:=List.getElem?_eq_some_iff.mp a
 obtain ⟨h2,e2⟩:=List.getElem?_eq_some_iff.mp b
 rw [List.nodup_iff_pairwise_ne,List.pairwise_iff_getElem] at nd
 rcases Nat.lt_trichotomy i j with z | z | z
 ·exact (nd i j h1 h2 z (e1.trans e2.symm)).elim
 ·exact z
 ·exact (nd j i h2 h1 z (e2.trans e1.symm)).elim
abbrev zaj (rs:List (Addr × Addr × Int × List Int)):List (Int × List Int):=rs.map fun r=>(r.2.2.1,r.2.2.2)
def zek (L M:List (Int × Int)):List Int:=(M.filter fun p=>decide ((valI L p.1).getD 0<p.2)).map (·.1)
def zjd (K:PySem.W.Frag):Sp:=fun vs H Q _=>∃(d e:Addr) (L M:List (Int × Int)),vs=[.ref d,.ref e]∧d≠e∧Rd H d (.dK (dI L))∧Rd H e (.dK (dI M))∧(M.map (·.1)).Nodup∧M.length≤40∧∀m H',But e H H'→Rd H' e (.dK (dI M))→H m=none→H' m=some (.lst ((zek L M).map V.int))→m≠e→Q (.ref m) H'
theorem zgy {L:List (Int × Int)} (nd:(L.map (·.1)).Nodup) {p:Int × Int} (hp:p∈L):valI L p.1=some p.2:=by
 unfold valI
 induction L with
 | nil=>cases hp
 | cons x L ih=>
   rw [List.map_cons,List.nodup_cons] at nd
   rcases List.mem_cons.mp hp with rfl | hp
   ·rw [List.find?_cons_of_pos (by simp)]
    rfl
   ·have ne:¬x.1=p.1:=fun z=>nd.1 (by rw [z];exact List.mem_map.mpr ⟨p,hp,rfl⟩)
    rw [List.find?_cons_of_neg (by simpa using ne)]
    exact ih nd.2 hp
def zbH (R S:List (Int × List Int)) (L M:List (Int × Int)) (t:Int):List Int:=zek (zaH t R L) (zaH t S M)
def FwOf (H:Hp) (b:Int) (R S:List (Int × List Int)) (L M:List (Int × Int)) (v:V):Prop:=(v=.non∧∀k:Nat,k<max R.length S.length→zbH R S L M (b+k)=[]) ∨
 ∃(k:Nat) (p:Addr) (m:Int),k<max R.length S.length∧(∀j:Nat,j<k→zbH R S L M (b+j)=[])∧m∈zbH R S L M (b+k)∧(∀x,x∈zbH R S L M (b+k)→m≤x)∧v=.ref p∧H p=some (.tup [.int (b+k),.int m])
def zhq (K:PySem.W.Frag):Sp:=fun vs H Q _=>∃(l D l' D':Addr) (xs xs':List (Addr × Cl × Int)) (rs rs':List (Addr × Addr × Int × List Int)) (b:Int),vs=[.ref l,.ref D,.ref l',.ref D']∧ChIn K H l xs∧IsRun H D rs∧ChIn K H l' xs'∧IsRun H D' rs'∧ze7 b (zaj rs)∧ze7 b (zaj rs')∧rs.length≤1481∧rs'.length≤1481∧
 ∀v H',Same H H'→FwOf H' b (zaj rs) (zaj rs') (lfX xs) (lfX xs') v→Q v H'
theorem zlU {kvs:List (Key × V)} (nd:(kvs.map (·.1)).Nodup) {p:Key × V} (hp:p∈kvs):valV kvs p.1=some p.2:=by
 induction kvs with
 | nil=>cases hp
 | cons x kvs ih=>
   rw [List.map_cons,List.nodup_cons] at nd
   rcases List.mem_cons.mp hp with rfl | hp
   ·exact zbj rfl
   ·rw [za9 fun z=>nd.1 (by rw [z];exact List.mem_map.mpr ⟨p,hp,rfl⟩)]
    exact ih nd.2 hp
theorem zje {rs:List (Addr × Addr × Int × List Int)} {b:Int} (h:ze7 b (zaj rs)) (k:Nat):valV (zbR [] (rs.map fun r=>((.inl r.2.2.1:Key),V.ref r.2.1))) (.inl (b+k))=(rs[k]?).map fun r=>V.ref r.2.1:=by
 have at_:∀(i:Nat) r,rs[i]?=some r→r.2.2.1=b+i:=fun i r e=>h i (r.2.2.1,r.2.2.2) (by unfold zaj;rw [List.getElem?_map,e];rfl)
 have nd:((rs.map fun r=>((.inl r.2.2.1:Key),V.ref r.2.1)).map (·.1)).Nodup:=by
  rw [List.map_map,List.nodup_iff_pairwise_ne,List.pairwise_map,List.pairwise_iff_getElem]
  intro i j hi hj ij e
  have e:=Sum.inl.inj e
  rw [at_ i _ (List.getElem?_eq_getElem hi),at_ j _ (List.getElem?_eq_getElem hj)] at e
  omega
 rw [zdj _ [] nd,List.nil_append]
 cases e:rs[k]? with
 | some r=>
   have:=zlU nd (p:=((.inl r.2.2.1:Key),V.ref r.2.1)) (List.mem_map.mpr ⟨r,List.mem_of_getElem? e,rfl⟩)
   rw [at_ k r e] at this
   exact this
 | none=>
   cases ev:valV (rs.map fun r=>((.inl r.2.2.1:Key),V.ref r.2.1)) (.inl (b+k)) with
   | none=>rfl
   | some v=>
     have:=zlh ev
     rw [List.map_map] at this
     obtain ⟨r,hr,er⟩:=List.mem_map.mp this
     obtain ⟨i,hi,ei⟩:=List.getElem_of_mem hr
     have a:=at_ i r (by rw [List.getElem?_eq_getElem hi,ei])
     have er:=Sum.inl.inj er
     have:=List.getElem?_eq_none_iff.mp e
     omega
theorem zjf {H:Hp} {D nl:Addr} {rs:List (Addr × Addr × Int × List Int)} (R:IsRun H D rs) (hn:H nl=some (.lst [])) (k:Nat):∃m,((rs[k]?).map fun r=>V.ref r.2.1).getD (.ref nl)=.ref m∧H m=some (.lst ((nAtR (zaj rs) k).map V.int)):=by
 unfold nAtR zaj
 rw [List.getElem?_map]
 cases e:rs[k]? with
 | none=>exact ⟨nl,rfl,hn⟩
 | some r=>exact ⟨r.2.1,rfl,R.num r (List.mem_of_getElem? e)⟩
theorem zdI:FnScope ["left","other_left"] ["left","other_left"] (zac zaK):=⟨rfl,rfl,rfl,by decide +kernel,rfl,by decide +kernel,by decide +kernel⟩
theorem zdJ (D:Dfn K mg "numbers_worse" zaK ["left","other_left"] f fd) (T:Txt K mg):Cal P w K mg base "numbers_worse" 1 ["left","other_left"] (zjd K):=by
 refine D.cal (D.F.ok zdI (fun vs H Q E h=>?_) (fun cdv A outer s H vs Q E hr h=>?_))
 ·obtain ⟨d,e,L,M,rfl,_⟩:=h
  rfl
 obtain ⟨d,e,L,M,rfl,de,hd,he,ndM,l40,q⟩:=h
 refine ⟨_,(zaf (zat (zbS (N:=["number","left","other_left"]) (js:=[0,1]) rfl (CompScope.of rfl rfl rfl rfl rfl (by decide +kernel) rfl rfl rfl rfl) (zeX (pv 1)) (fun _ _ _ _ _=>(zfG (zaw zcs (zct hr.units1 (pv 2) (pv 0) (fun _ _=>rfl)) (zdM hr.units1 (pv 1) (pv 0) zab ⟨rfl,rfl,rfl,rfl⟩) (zay _)))) (fun _ _ _ _ _=>(pv 0))))),?_⟩
 refine ⟨_,rfl,e,_,rfl,he,fun ob H1 k1 h1=>?_⟩
 have hd1:Rd H1 d (.dK (dI L)):=Rd.but hd k1 de
 have he1:Rd H1 e (.dK (dI M)):=.inr ⟨ob,h1⟩
 refine zd9 (tak M fun p=>decide ((valI L p.1).getD 0<p.2)) (itm M fun p=>V.int p.1) h1 ?_ ?_ (zaF (by rw [zdw];omega)) (fun D H2 s2 nD hD=>?_)
 ·intro i kv Hh Q' hi sh q'
  have z:=q' Hh (Same.refl _)
  unfold tak at z
  unfold dI at hi
  rw [List.getElem?_map] at hi
  cases e1:M[i]? with
  | none=>rw [e1] at hi;cases hi
  | some p=>
    rw [e1] at hi z
    cases hi
    have g:=zc2 (Rd.same he1 sh) p.1
    rw [zgy ndM (List.mem_of_getElem? e1)] at g
    have g2:=zc2 (Rd.same hd1 sh) p.1
    have ev:((valI L p.1).map V.int).getD (V.int 0)=V.int ((valI L p.1).getD 0):=by cases valI L p.1<;>rfl
    exact ⟨_,rfl,_,rfl,e,_,rfl,g,_,rfl,d,rfl,.inl ⟨_,Rd.same hd1 sh⟩,_,rfl,_,g2,_,_,rfl,ev,_,rfl,z⟩
 ·intro i kv Hh Q' hi _ sh q'
  have z:=q' Hh (Same.refl _)
  unfold itm at z
  unfold dI at hi
  rw [List.getElem?_map] at hi
  cases e1:M[i]? with
  | none=>rw [e1] at hi;cases hi
  | some p=>
    rw [e1] at hi z
    cases hi
    exact ⟨_,rfl,z⟩
 rw [zdw,zd6] at hD
 refine q D H2 (k1.trans s2.toBut) (Rd.same he1 s2) (But.free k1 h1 nD) ?_ (Ne.symm (Rd.ne he1 nD))
 rw [hD]
 unfold zek
 rw [List.map_map]
 rfl
theorem zaA:FnScope ["chores","rows","other","other_rows","left","other_left","numbers_at","other_numbers_at","turn","worse"] ["chores","rows","other","other_rows"] (zac za1):=⟨rfl,rfl,rfl,by decide +kernel,rfl,by decide +kernel,by decide +kernel⟩
theorem zev (D:Dfn K mg "first_worse" za1 ["chores","rows","other","other_rows"] f fd) (T:Txt K mg) (zaN:Cal P w K mg base "left_at_first" 1 ["chores"] (zgx K)) (za3:Cal P w K mg base "left_behind" 1 ["left","numbers"] (zjb K)) (zbY:Cal P w K mg base "numbers_worse" 1 ["left","other_left"] (zjd K)):Cal P w K mg base "first_worse" 3 ["chores","rows","other","other_rows"] (zhq K):=by
 refine D.cal (D.F.ok zaA (fun vs H Q E h=>?_) (fun cdv A outer s H vs Q E hr h=>?_))
 ·obtain ⟨l,D,l',D',xs,xs',rs,rs',b,rfl,_⟩:=h
  rfl
 obtain ⟨l,D,l',D',xs,xs',rs,rs',b,rfl,hI,R,hI',R',tR,tR',l1,l2,q⟩:=h
 refine ⟨_,(zad (zan (i:=4) zaA.nd rfl (Or.inl rfl) (zam zaN (hr.mono (by decide)) rfl (zaa (pv 0) zae)))
  (zad (zan (i:=5) zaA.nd rfl (Or.inl rfl) (zam zaN (hr.mono (by decide)) rfl (zaa (pv 2) zae)))
  (zad (zan (i:=6) zaA.nd rfl (Or.inl rfl) (zbK (zcH hr.hd) rfl T.zhg zeT (zaa (pv 1) zae)))
  (zad (zan (i:=7) zaA.nd rfl (Or.inl rfl) (zbK (zcH hr.hd) rfl T.zhg zeT (zaa (pv 3) zae)))
  (zad (zcp PassesOwn.never rfl (za6 (zhL hr.hd rfl T.zhh rfl T.zns (zbS (N:=["row"]) (js:=[]) rfl (CompScope.of rfl rfl rfl rfl rfl (by decide +kernel) rfl rfl rfl rfl) (za6 (zai zgo (pv 1) (pv 3))) (fun _ _ _ _ _=>zc1) (fun _ _ _ _ _=>(zau (r:=rIxT K) zao (pv 0) zab (fun _ _=>rfl)))))) (zaO (i:=8) zaA.nd rfl (Or.inl rfl)) (zad (zan (i:=4) zaA.nd rfl (Or.inl rfl) (zam za3 (hr.mono (by decide)) rfl (zaa (pv 4) (zaa (zdM hr.units1 (pv 6) (pv 8) (zbb zae) ⟨rfl,rfl,rfl,rfl⟩) zae))))
  (zad (zan (i:=5) zaA.nd rfl (Or.inl rfl) (zam za3 (hr.mono (by decide)) rfl (zaa (pv 5) (zaa (zdM hr.units1 (pv 7) (pv 8) (zbb zae) ⟨rfl,rfl,rfl,rfl⟩) zae))))
  (zad (zan (i:=9) zaA.nd rfl (Or.inl rfl) (zam zbY (hr.mono (by decide)) rfl (zaa (pv 4) (zaa (pv 5) zae))))
  (zaf (zcf (zaw zcs (zaU zba rfl T.zgu zdY (zaa (pv 9) zae)) zab (zay _)) (zaf (zat (zaZ (zaa (pv 8) (zaa (zaU (zir rfl) rfl T.zlR zii (zaa (pv 9) zae)) zae))))) zaY))))))
  (zaf (zat zhX))))))),?_⟩
 refine ⟨_,rfl,l,xs,rfl,hI,fun d0 H1 s1 n1 h1=>?_⟩
 refine ⟨_,rfl,l',xs',rfl,hI'.same s1,fun e0 H2 s2 n2 h2=>?_⟩
 have s02:=s1.trans s2
 have mapg:∀rs:List (Addr × Addr × Int × List Int),(rs.map fun r=>(r.1,(.inl r.2.2.1:Key),V.ref r.2.1)).map (·.2)=rs.map fun r=>((.inl r.2.2.1:Key),V.ref r.2.1):=fun rs=>by rw [List.map_map];rfl
 have mapr:∀rs:List (Addr × Addr × Int × List Int),((rs.map fun r=>(r.1,(.inl r.2.2.1:Key),V.ref r.2.1)).map fun b=>V.ref b.1)=rs.map fun r=>V.ref r.1:=fun rs=>by rw [List.map_map];rfl
 refine ⟨_,rfl,D,rs.map fun r=>(r.1,(.inl r.2.2.1:Key),V.ref r.2.1),rfl,by rw [mapr];exact s02 _ _ R.at_,fun b hb=>?_,fun N1 H3 s3 n3 h3=>?_⟩
 ·obtain ⟨r,hr,rfl⟩:=List.mem_map.mp hb
  exact s02 _ _ (R.row r hr)
 have s03:=s02.trans s3
 refine ⟨_,rfl,D',rs'.map fun r=>(r.1,(.inl r.2.2.1:Key),V.ref r.2.1),rfl,by rw [mapr];exact s03 _ _ R'.at_,fun b hb=>?_,fun N2 H4 s4 n4 h4=>?_⟩
 ·obtain ⟨r,hr,rfl⟩:=List.mem_map.mp hb
  exact s03 _ _ (R'.row r hr)
 rw [mapg] at h3 h4
 have s04:=s03.trans s4
 have R4:=R.same s04
 have R4':=R'.same s04
 have m1:(rs.map fun r=>V.ref r.1).length=rs.length:=List.length_map _
 have m2:(rs'.map fun r=>V.ref r.1).length=rs'.length:=List.length_map _
 have big:(10000:Nat)≤sizeLine:=by decide
 refine ⟨_,rfl,_,rfl,D,D',_,_,rfl,rfl,SqL.of R4.at_,SqL.of R4'.at_,by rw [m1,m2];omega,fun C H5 s5 n5 h5=>⟨C,rfl,⟨_,SqL.of h5⟩,?_⟩⟩
 have s05:=s04.trans s5
 have R5:=R4.same s5
 have R5':=R4'.same s5
 rw [←List.map_append] at h5
 have m3:((rs++rs').map fun r=>V.ref r.1).length=(rs++rs').length:=List.length_map _
 refine zcc (xs:=(rs++rs').map fun r=>V.ref r.1) (fun _=>true) (itm (rs++rs') fun r=>V.int r.2.2.1) (SqL.of h5) (fun i x Hh Q' hx sh q'=>q' Hh (Same.refl _)) ?_ (by rw [m3,List.length_append];omega) (fun G H6 s6 nG hG=>?_)
 ·intro i x Hh Q' hx _ sh q'
  have z:=q' Hh (Same.refl _)
  unfold itm at z
  rw [List.getElem?_map] at hx
  cases e:(rs++rs')[i]? with
  | none=>rw [e] at hx;cases hx
  | some r=>
    rw [e] at hx z
    cases hx
    have hr:Hh r.1=some (.tup [.int r.2.2.1,.ref r.2.1]):=by
     rcases List.mem_append.mp (List.mem_of_getElem? e) with hr | hr
     ·exact sh _ _ (R5.row r hr)
     ·exact sh _ _ (R5'.row r hr)
    exact ⟨_,rfl,r.1,_,_,_,rfl,rfl,SqT.of hr,rfl,z⟩
 rw [zcG,m3,zd3] at hG
 have hG:H6 G=some (.lst (((rs++rs').map fun r=>r.2.2.1).map V.int)):=by
  rw [hG,List.map_map]
  rfl
 refine ⟨G,(rs++rs').map fun r=>r.2.2.1,rfl,SqL.of hG,by rw [List.length_map,List.length_append];omega,fun O H7 ms s7 n7 h7 mem pw=>⟨O,rfl,⟨_,SqL.of h7⟩,?_⟩⟩
 have lr:(zaj rs).length=rs.length:=List.length_map _
 have lr':(zaj rs').length=rs'.length:=List.length_map _
 have ems:=zhM tR tR' pw (fun k=>by rw [mem];unfold zaj;rw [←List.map_append,List.map_map];rfl)
 subst ems
 have s06:=s05.trans s6
 have s07:=s06.trans s7
 have s27:Same H2 H7:=s3.trans (s4.trans (s5.trans (s6.trans s7)))
 have h3':H7 N1=_:=s7 _ _ (s6 _ _ (s5 _ _ (s4 _ _ h3)))
 have h4':H7 N2=_:=s7 _ _ (s6 _ _ (s5 _ _ h4))
 have dN1:d0≠N1:=fun z=>by
  have:=s2 _ _ h1
  rw [z,n3] at this
  cases this
 have dN2:d0≠N2:=fun z=>by
  have:=s3 _ _ (s2 _ _ h1)
  rw [z,n4] at this
  cases this
 have eN1:e0≠N1:=fun z=>by
  rw [z,n3] at h2
  cases h2
 have eN2:e0≠N2:=fun z=>by
  have:=s3 _ _ h2
  rw [z,n4] at this
  cases this
 have de0:d0≠e0:=fun z=>by
  rw [←z,h1] at n2
  cases n2
 have nf:∀ {R:List (Int × List Int)} (L:List (Int × Int)),ze7 b R→zaH (b+((0:Nat):Int)-1) R L=L:=fun {R} L tR=>zcw fun r hr=>by
  obtain ⟨i,hi,e⟩:=List.getElem_of_mem hr
  have:=tR i r (by rw [List.getElem?_eq_getElem hi,e])
  omega
 have ndl:∀ {H:Hp} {l:Addr} {xs:List (Addr × Cl × Int)} (hI:ChIn K H l xs) (t:Int) (R:List (Int × List Int)),((zaH t R (lfX xs)).map (·.1)).Nodup∧(zaH t R (lfX xs)).length≤40:=fun {H l xs} hI t R=>by
  have k:=zbk t R (lfX xs)
  refine ⟨by rw [k];exact zfY hI,?_⟩
  have:=congrArg List.length k
  rw [List.length_map,List.length_map] at this
  rw [this]
  unfold lfX
  rw [List.length_map]
  exact hI.len
 refine zb2 (K:=K) (a:=O) (xs:=((List.range (max (zaj rs).length (zaj rs').length)).map fun (i:Nat)=>b+(i:Int)).map V.int) (fun i σ H'=>∃(d e:Addr) (v8 v9:Option V),σ=[some (.ref l),some (.ref D),some (.ref l'),some (.ref D'),some (.ref d),some (.ref e),some (.ref N1),some (.ref N2),v8,v9]∧Same H H'∧H' O=some (.lst (((List.range (max (zaj rs).length (zaj rs').length)).map fun (i:Nat)=>b+(i:Int)).map V.int))∧H' N1=some (.dK (zbR [] (rs.map fun r=>((.inl r.2.2.1:Key),V.ref r.2.1))))∧H' N2=some (.dK (zbR [] (rs'.map fun r=>((.inl r.2.2.1:Key),V.ref r.2.1))))∧(d≠N1∧d≠N2∧e≠N1∧e≠N2∧d≠e∧H d=none∧H e=none)∧Rd H' d (.dK (dI (zaH (b+i-1) (zaj rs) (lfX xs))))∧Rd H' e (.dK (dI (zaH (b+i-1) (zaj rs') (lfX xs'))))∧∀j:Nat,j<i→zbH (zaj rs) (zaj rs') (lfX xs) (lfX xs') (b+j)=[])
  ⟨d0,e0,_,_,rfl,s07,h7,h3',h4',⟨dN1,dN2,eN1,eN2,de0,n1,Same.free s1 n2⟩,by rw [nf _ tR];exact .inl (s27 _ _ (s2 _ _ h1)),by rw [nf _ tR'];exact .inl (s27 _ _ h2),fun j z=>by omega⟩ (fun i σ H' _ ⟨_,_,_,_,_,_,hO,_⟩=>SqL.of hO) ?_ ?_
 ·rintro i x σ H8 hi ⟨d,e,v8,v9,rfl,s8,hO,hN1,hN2,⟨a1,a2,a3,a4,a5,a6,a7⟩,hd,he,no⟩
  rw [List.getElem?_map,List.getElem?_map] at hi
  by_cases il:i<max (zaj rs).length (zaj rs').length
  ·rw [List.getElem?_range il] at hi
   cases hi
   refine ⟨_,rfl,_,rfl,N1,rfl,.inl ⟨_,.inl hN1⟩,_,rfl,sz 0 (by decide),fun nl H9 s9 n9 h9=>⟨_,DGet.k (k:=.inl (b+i)) (s9 _ _ hN1),?_⟩⟩
   obtain ⟨m,em,hm⟩:=zjf ((R.same s8).same s9) h9 i
   rw [zje tR,em]
   have st1:=zef tR i (lfX xs)
   have st2:=zef tR' i (lfX xs')
   refine ⟨d,m,_,_,rfl,Rd.same hd s9,hm,(ndl hI _ _).1,(ndl hI _ _).2,fun d' H10 k10 nd' hd' dd=>?_⟩
   rw [←st1] at hd'
   have nd8:H8 d'=none:=Same.free s9 nd'
   have k10':But d H8 H10:=s9.toBut.trans k10
   have hN2':H10 N2=_:=k10' _ _ (Ne.symm a2) hN2
   have he10:=Rd.but he k10' (Ne.symm a5)
   have s10:Same H H10:=s8.but a6 k10'
   refine ⟨_,rfl,_,rfl,N2,rfl,.inl ⟨_,.inl hN2'⟩,_,rfl,sz 0 (by decide),fun nl' H11 s11 n11 h11=>⟨_,DGet.k (k:=.inl (b+i)) (s11 _ _ hN2'),?_⟩⟩
   obtain ⟨m',em',hm'⟩:=zjf ((R'.same s10).same s11) h11 i
   rw [zje tR',em']
   refine ⟨e,m',_,_,rfl,Rd.same he10 s11,hm',(ndl hI' _ _).1,(ndl hI' _ _).2,fun e' H12 k12 ne' he' ee=>?_⟩
   rw [←st2] at he'
   have k12':But e H10 H12:=s11.toBut.trans k12
   have ne10:H10 e'=none:=Same.free s11 ne'
   have de:d'≠e:=fun z=>by
    subst z
    exact (Rd.ne he nd8) rfl
   have hd12:H12 d'=_:=k12' _ _ de hd'
   have s12:Same H H12:=s10.but a7 k12'
   have dn:d'≠e':=fun z=>by
    rw [←z,hd'] at ne10
    cases ne10
   have fr:∀ {a:Addr} {u:HO},H8 a=some u→a≠d→a≠e→H12 a=some u∧d'≠a∧e'≠a:=fun {a u} h n1 n2=>by
    have h10:=k10' _ _ n1 h
    exact ⟨k12' _ _ n2 h10,(fun z=>by rw [z,h] at nd8;cases nd8),(fun z=>by rw [z,h10] at ne10;cases ne10)⟩
   obtain ⟨g1,g2,g3⟩:=fr hN1 (Ne.symm a1) (Ne.symm a3)
   obtain ⟨g4,g5,g6⟩:=fr hN2 (Ne.symm a2) (Ne.symm a4)
   have Od:O≠d:=fun z=>by
    subst z
    rcases hd with hd | ⟨_,hd⟩<;>rw [hO] at hd<;>cases hd
   have Oe:O≠e:=fun z=>by
    subst z
    rcases he with he | ⟨_,he⟩<;>rw [hO] at he<;>cases he
   obtain ⟨g7,g8,g9⟩:=fr hO Od Oe
   refine ⟨_,rfl,_,rfl,d',e',_,_,rfl,dn,.inl hd12,.inl he',(ndl hI' _ _).1,(ndl hI' _ _).2,fun w H13 k13 he13 nw hw we=>?_⟩
   have hO13:H13 O=_:=k13 _ _ (Ne.symm g9) g7
   have nde:H e'=none:=Same.free s10 ne10
   have ndd:H d'=none:=Same.free s8 nd8
   have s13:Same H H13:=s12.but nde k13
   have ew:zek (zaH (b+i) (zaj rs) (lfX xs)) (zaH (b+i) (zaj rs') (lfX xs'))=zbH (zaj rs) (zaj rs') (lfX xs) (lfX xs') (b+i):=rfl
   rw [ew] at hw
   refine ⟨_,rfl,w,_,rfl,.inl (SqL.of hw),_,_,rfl,rfl,_,rfl,?_⟩
   have lw:((zbH (zaj rs) (zaj rs') (lfX xs) (lfX xs') (b+i)).map V.int).length=(zbH (zaj rs) (zaj rs') (lfX xs) (lfX xs') (b+i)).length:=List.length_map _
   rw [lw]
   by_cases c:(0:Int)<((zbH (zaj rs) (zaj rs') (lfX xs) (lfX xs') (b+i)).length:Int)
   ·refine iteD c ?_
    refine ⟨_,rfl,_,rfl,w,_,rfl,SqL.of hw,by omega,fun mm hmm hle=>⟨sz 2 (by decide),fun p H14 s14 n14 h14=>?_⟩⟩
    exact q (.ref p) H14 (s13.trans s14) (.inr ⟨i,p,mm,il,no,hmm,hle,rfl,h14⟩)
   ·refine zfE c ?_
    have e0:zbH (zaj rs) (zaj rs') (lfX xs) (lfX xs') (b+i)=[]:=List.length_eq_zero_iff.mp (by omega)
    have eb:b+((i+1:Nat):Int)-1=b+i:=by omega
    refine ⟨d',e',_,_,rfl,s13,hO13,k13 _ _ (Ne.symm g3) g1,k13 _ _ (Ne.symm g6) g4,⟨g2,g5,g3,g6,dn,ndd,nde⟩,by rw [eb];exact .inl (k13 _ _ dn hd12),by rw [eb];exact he13,fun j hj=>?_⟩
    by_cases z:j=i
    ·subst z
     exact e0
    ·exact no j (by omega)
  ·rw [List.getElem?_eq_none (by simp;omega)] at hi
   cases hi
 ·rintro σ H8 ⟨d,e,v8,v9,rfl,s8,hO,hN1,hN2,_,hd,he,no⟩
  rw [List.length_map,List.length_map,List.length_range] at no
  exact q .non H8 s8 (.inl ⟨rfl,no⟩)
def zmX (K:PySem.W.Frag):Sp:=fun vs H Q _=>∃(l D:Addr) (xs:List (Addr × Cl × Int)) (rs:List (Addr × Addr × Int × List Int)) (t:Int),vs=[.ref l,.ref D,.int t]∧ChIn K H l xs∧IsRun H D rs∧∀d H',Same H H'→H d=none→H' d=some (.dK (dI (zaH t (rs.map fun r=>(r.2.2.1,r.2.2.2)) (lfX xs))))→Q (.ref d) H'
theorem zbp {α:Type} {xs:List α} {i:Nat} {x : α} (h:xs[i]?=some x):xs.take (i+1)=xs.take i++[x]:=by
 rw [List.take_succ,h]
 rfl
theorem zcJ:FnScope ["chores","rows","turn","left","row"] ["chores","rows","turn"] (zac zbU):=⟨rfl,rfl,rfl,by decide +kernel,rfl,by decide +kernel,by decide +kernel⟩
theorem zhN (D:Dfn K mg "left_by" zbU ["chores","rows","turn"] f fd) (T:Txt K mg) (zaN:Cal P w K mg base "left_at_first" 1 ["chores"] (zgx K)) (za3:Cal P w K mg base "left_behind" 1 ["left","numbers"] (zjb K)):Cal P w K mg base "left_by" 2 ["chores","rows","turn"] (zmX K):=by
 refine D.cal (D.F.ok zcJ (fun vs H Q E h=>?_) (fun cdv A outer s H vs Q E hr h=>?_))
 ·obtain ⟨l,D,xs,rs,t,rfl,_⟩:=h
  rfl
 obtain ⟨l,D,xs,rs,t,rfl,hI,R,q⟩:=h
 refine ⟨_,(zad (zan (i:=3) zcJ.nd rfl (Or.inl rfl) (zam zaN (hr.mono (by decide)) rfl (zaa (pv 0) zae)))
  (zad (zcp PassesOwn.never rfl (za6 (pv 1)) (zaO (i:=4) zcJ.nd rfl (Or.inl rfl)) (zaf (zcf (zaw zh4 (zau zao (pv 4) zab (fun _ _=>rfl)) (pv 2) (zay _)) (zaf (zan (i:=3) zcJ.nd rfl (Or.inl rfl) (zam za3 (hr.mono (by decide)) rfl (zaa (pv 3) (zaa (zau zao (pv 4) zab (fun _ _=>rfl)) zae))))) zaY)))
  (zaf (zat (pv 3))))),?_⟩
 refine ⟨_,rfl,l,xs,rfl,hI,fun d H1 s1 nd hd=>?_⟩
 have mr:(rs.map fun r=>V.ref r.1).length=rs.length:=List.length_map _
 refine ⟨_,rfl,D,rfl,⟨_,SqL.of (s1 _ _ R.at_)⟩,?_⟩
 refine zb2 (K:=K) (a:=D) (xs:=rs.map fun r=>V.ref r.1) (fun i σ H'=>∃(d':Addr) (v4:Option V),σ=[some (.ref l),some (.ref D),some (.int t),some (.ref d'),v4]∧Same H H'∧H d'=none∧H' d'=some (.dK (dI (zaH t ((rs.take i).map fun r=>(r.2.2.1,r.2.2.2)) (lfX xs)))))
  ⟨d,_,rfl,s1,nd,hd⟩ (fun i σ H' _ ⟨_,_,_,s,_⟩=>SqL.of (s _ _ R.at_)) ?_ ?_
 ·rintro i x σ H2 hi ⟨d',v4,rfl,s2,nd',h2⟩
  rw [List.getElem?_map] at hi
  cases e:rs[i]? with
  | none=>rw [e] at hi;cases hi
  | some r=>
    rw [e] at hi
    cases hi
    have hr:=List.mem_of_getElem? e
    have er:(rs.take (i+1)).map (fun r=>(r.2.2.1,r.2.2.2))=(rs.take i).map (fun r=>(r.2.2.1,r.2.2.2))++[(r.2.2.1,r.2.2.2)]:=by
     rw [zbp e]
     exact List.map_append
    have rw2:=SqT.of (K:=K) (s2 _ _ (R.row r hr))
    rw [er,zeH]
    refine ⟨_,rfl,r.1,_,_,_,rfl,rfl,rw2,rfl,_,rfl,_,_,rfl,rfl,_,rfl,?_⟩
    by_cases c:r.2.2.1≤t
    ·refine iteD c ?_
     rw [if_pos c]
     refine ⟨_,rfl,_,rfl,r.1,_,_,_,rfl,rfl,rw2,rfl,d',r.2.1,_,r.2.2.2,rfl,.inl h2,s2 _ _ (R.num r hr),?_,?_,fun e' H3 k3 ne' he' ned=>⟨e',_,rfl,s2.but nd' k3,Same.free s2 ne',he'⟩⟩
     ·rw [zbk]
      exact zfY hI
     ·have:=congrArg List.length (zbk t ((rs.take i).map fun r=>(r.2.2.1,r.2.2.2)) (lfX xs))
      rw [List.length_map,List.length_map] at this
      rw [this]
      unfold lfX
      rw [List.length_map]
      exact hI.len
    ·refine zfE c ?_
     rw [if_neg c]
     exact ⟨d',_,rfl,s2,nd',h2⟩
 ·rintro σ H2 ⟨d',v4,rfl,s2,nd',h2⟩
  rw [mr,List.take_length] at h2
  exact ⟨_,rfl,q d' H2 s2 nd' h2⟩
def zjg (K:PySem.W.Frag):Sp:=fun vs H Q _=>∃(p q:Addr) (c d:Cl),vs=[.ref p,.ref q]∧IsCl K H p c∧IsCl K H q d∧c.Ok∧d.Ok∧∀H',Same H H'→Q (.bl (zdD c d)) H'
def zjh (K:PySem.W.Frag):Sp:=fun vs H Q _=>∃(p l:Addr) (y:Cl × Int) (xs:List (Addr × Cl × Int)),vs=[.ref p,.ref l]∧IsCh K H p y∧y.1.Ok∧IsChs K H l xs∧xs.length≤40∧(∀q,q∈xs→q.2.1.Ok)∧∀H',Same H H'→Q (.bl (easd xs y)) H'
def zji (K:PySem.W.Frag):Sp:=fun vs H Q _=>∃(l m:Addr) (xs ys:List (Addr × Cl × Int)) (h h':Int),vs=[.ref l,.int h,.ref m,.int h']∧IsChs K H l xs∧xs.length≤40∧(∀q,q∈xs→q.2.1.Ok)∧IsChs K H m ys∧ys.length≤40∧(∀q,q∈ys→q.2.1.Ok)∧∀H',Same H H'→Q (.bl (eass xs ys h h')) H'
theorem zcU:FnScope ["one","other","left","right"] ["one","other"] (zac zbC):=⟨rfl,rfl,rfl,by decide +kernel,rfl,by decide +kernel,by decide +kernel⟩
theorem zgz (D:Dfn K mg "compared" zbC ["one","other"] f fd) (T:Txt K mg):Cal P w K mg base "compared" 1 ["one","other"] (zmS K):=by
 refine D.cal (D.F.ok zcU (fun vs H Q E h=>?_) (fun cdv A outer s H vs Q E hr h=>?_))
 ·obtain ⟨p,p2,t,b,u,c,rfl,_⟩:=h
  rfl
 obtain ⟨p,p2,t,b,u,c,rfl,hp,hq,b0,b1,c0,c1,q⟩:=h
 refine ⟨_,(zad (zan (i:=2) zcU.nd rfl (Or.inl rfl) (zai zbQ (zau zao (pv 0) zab (fun _ _=>rfl)) (zau zao (pv 1) zab (fun _ _=>rfl))))
  (zad (zan (i:=3) zcU.nd rfl (Or.inl rfl) (zai zbQ (zau zao (pv 1) zab (fun _ _=>rfl)) (zau zao (pv 0) zab (fun _ _=>rfl))))
  (zad (zcf (zaw zl8 (pv 2) (pv 3) (zay _)) (zaf (zat (zjt zgQ zab))) zaY)
  (zaf (zat (zeO (zaw zcs (pv 2) (pv 3) (zay _)) zab zab)))))),?_⟩
 refine ⟨_,rfl,p,_,_,_,rfl,rfl,hp,rfl,_,rfl,p2,_,_,_,rfl,rfl,hq,rfl,_,_,rfl,rfl,.inr ⟨by omega,by omega⟩,?_⟩
 refine ⟨_,rfl,p2,_,_,_,rfl,rfl,hq,rfl,_,rfl,p,_,_,_,rfl,rfl,hp,rfl,_,_,rfl,rfl,.inr ⟨by omega,by omega⟩,?_⟩
 refine ⟨_,rfl,_,rfl,_,_,rfl,rfl,_,rfl,?_⟩
 have Z:=q H (Same.refl H)
 unfold sg at Z
 refine ite2 (fun d=>?_) (fun d=>?_)
 ·have d':t*c<u*b:=of_decide_eq_true d
  rw [if_pos d'] at Z
  exact ⟨_,rfl,Z⟩
 ·have d':¬t*c<u*b:=of_decide_eq_false (Bool.eq_false_iff.mpr d)
  rw [if_neg d'] at Z
  refine ⟨_,rfl,_,rfl,_,_,rfl,rfl,_,rfl,?_⟩
  refine ite2 (fun d2=>?_) (fun d2=>?_)
  ·have d3:u*b<t*c:=of_decide_eq_true d2
   rw [if_pos d3] at Z
   exact Z
  ·have d3:¬u*b<t*c:=of_decide_eq_false (Bool.eq_false_iff.mpr d2)
   rw [if_neg d3] at Z
   exact Z
theorem zfb:FnScope ["one","other"] ["one","other"] (zac zbc):=⟨rfl,rfl,rfl,by decide +kernel,rfl,by decide +kernel,by decide +kernel⟩
theorem zfc (D:Dfn K mg "same_claim" zbc ["one","other"] f fd) (T:Txt K mg) (zcK:Cal P w K mg base "compared" 1 ["one","other"] (zmS K)):Cal P w K mg base "same_claim" 2 ["one","other"] (zjg K):=by
 refine D.cal (D.F.ok zfb (fun vs H Q E h=>?_) (fun cdv A outer s H vs Q E hr h=>?_))
 ·obtain ⟨p,p2,c,d,rfl,_⟩:=h
  rfl
 obtain ⟨p,p2,c,d,rfl,hc,hd,oc,od,q⟩:=h
 refine ⟨_,(zad (zcf (zaw (ziK hr.units0) (zaZ (zaa (zau zao (pv 0) zab (fun _ _=>rfl)) (zaa (zau zao (pv 0) zab (fun _ _=>rfl)) zae))) (zaZ (zaa (zau zao (pv 1) zab (fun _ _=>rfl)) (zaa (zau zao (pv 1) zab (fun _ _=>rfl)) zae))) (zay _)) (zaf (zat zdS)) zaY)
  (zaf (zat (zhZ (zb7 zfq (zam zcK (hr.mono (by decide)) rfl (zaa (zau zao (pv 0) zab (fun _ _=>rfl)) (zaa (zau zao (pv 1) zab (fun _ _=>rfl)) zae))) zab (zay _)) (zgN (zb7 zfq (zam zcK (hr.mono (by decide)) rfl (zaa (zau zao (pv 0) zab (fun _ _=>rfl)) (zaa (zau zao (pv 1) zab (fun _ _=>rfl)) zae))) zab (zay _))))))),?_⟩
 obtain ⟨pw,pz,x1,x2,x3⟩:=id hc.ex
 obtain ⟨qw,qz,y1,y2,y3⟩:=id hd.ex
 refine ⟨_,rfl,p,_,_,_,rfl,rfl,SqT.of x1,rfl,_,rfl,p,_,_,_,rfl,rfl,SqT.of x1,rfl,sz 2 (by decide),fun t1 H1 s1 n1 h1=>?_⟩
 refine ⟨_,rfl,p2,_,_,_,rfl,rfl,SqT.of (s1 _ _ y1),rfl,_,rfl,p2,_,_,_,rfl,rfl,SqT.of (s1 _ _ y1),rfl,sz 2 (by decide),fun t2 H2 s2 n2 h2=>?_⟩
 have s02:=s1.trans s2
 refine ⟨t1,t2,_,_,rfl,rfl,SqT.of (s2 _ _ h1),SqT.of h2,rfl,rfl,_,rfl,?_⟩
 have Z:=q H2 s02
 unfold zdD at Z
 by_cases e:c.n=d.n∧c.came=d.came
 ·have ee:eqVs [V.int c.n,V.int c.came] [V.int d.n,V.int d.came]=true:=by
   rw [e.1,e.2]
   exact zcN [d.n,d.came]
  rw [ee]
  refine iteF ?_
  have z1:=oc.w2
  have z2:=oc.w3
  have z3:=od.w2
  have z4:=od.w3
  refine ⟨_,rfl,p,_,_,_,rfl,rfl,SqT.of (s02 _ _ x1),rfl,_,rfl,p2,_,_,_,rfl,rfl,SqT.of (s02 _ _ y1),rfl,pw,qw,_,_,_,_,rfl,SqT.of (s02 _ _ x2),SqT.of (s02 _ _ y2),by omega,by omega,by omega,by omega,fun H3 s3=>⟨rfl,_,rfl,?_⟩⟩
  rw [ziL]
  have s03:=s02.trans s3
  by_cases e2:c.wt*d.wb=d.wt*c.wb
  ·refine iteD e2 ?_
   have w1:=oc.s2
   have w2:=oc.s3
   have w3:=od.s2
   have w4:=od.s3
   refine ⟨_,rfl,p,_,_,_,rfl,rfl,SqT.of (s03 _ _ x1),rfl,_,rfl,p2,_,_,_,rfl,rfl,SqT.of (s03 _ _ y1),rfl,pz,qz,_,_,_,_,rfl,SqT.of (s03 _ _ x3),SqT.of (s03 _ _ y3),by omega,by omega,by omega,by omega,fun H4 s4=>⟨rfl,?_⟩⟩
   rw [ziL]
   have Z:=q H4 (s03.trans s4)
   unfold zdD at Z
   have eq:decide (c.n=d.n∧c.came=d.came∧c.wt*d.wb=d.wt*c.wb∧c.st*d.sb=d.st*c.sb)=decide (c.st*d.sb=d.st*c.sb):=by
    rw [decide_eq_decide]
    exact ⟨fun z=>z.2.2.2,fun z=>⟨e.1,e.2,e2,z⟩⟩
   rw [eq] at Z
   exact Z
  ·refine zfE e2 ?_
   have Z:=q H3 s03
   unfold zdD at Z
   rw [decide_eq_false fun z=>e2 z.2.2.1] at Z
   exact Z
 ·have ee:eqVs [V.int c.n,V.int c.came] [V.int d.n,V.int d.came]=false:=by
   show ((c.n==d.n)&&((c.came==d.came)&&true))=false
   rw [Bool.and_true,Bool.and_eq_false_iff]
   by_cases n:c.n=d.n
   ·exact .inr (by simpa using fun z=>e ⟨n,z⟩)
   ·exact .inl (by simpa using n)
  rw [ee]
  refine iteT ?_
  rw [decide_eq_false fun z=>e ⟨z.1,z.2.1⟩] at Z
  exact Z
theorem zgA:FnScope ["chore","chores"] ["chore","chores"] (zac zbD):=⟨rfl,rfl,rfl,by decide +kernel,rfl,by decide +kernel,by decide +kernel⟩
theorem zgB (D:Dfn K mg "is_eased" zbD ["chore","chores"] f fd) (T:Txt K mg) (zcB:Cal P w K mg base "same_claim" 2 ["one","other"] (zjg K)):Cal P w K mg base "is_eased" 3 ["chore","chores"] (zjh K):=by
 refine D.cal (D.F.ok zgA (fun vs H Q E h=>?_) (fun cdv A outer s H vs Q E hr h=>?_))
 ·obtain ⟨p,l,y,xs,rfl,_⟩:=h
  rfl
 obtain ⟨p,l,y,xs,rfl,hy,oy,hx,xl,ox,q⟩:=h
 refine ⟨_,(zaf (zat (zaU (ziG rfl) rfl T.znr zmm (zaa (zbS (N:=["known","chore"]) (js:=[0]) rfl (CompScope.of rfl rfl rfl rfl rfl (by decide +kernel) rfl rfl rfl rfl) (za6 (pv 1)) (fun _ _ _ _ _=>zc1) (fun _ _ _ _ _=>(zhZ (zam zcB (hr.mono (by decide)) rfl (zaa (zau (r:=rIxT K) zao (pv 1) zab (fun _ _=>rfl)) (zaa (zau (r:=rIxT K) zao (pv 0) zab (fun _ _=>rfl)) zae))) (zgN (zb7 zh4 (zau (r:=rIxT K) zao (pv 1) zab (fun _ _=>rfl)) (zau (r:=rIxT K) zao (pv 0) zab (fun _ _=>rfl)) (zay _)))))) zae)))),?_⟩
 refine ⟨_,rfl,l,rfl,⟨_,SqL.of hx.at_⟩,?_⟩
 obtain ⟨pc,h1,h2⟩:=hy.ex
 have ml:(xs.map fun q=>V.ref q.1).length=xs.length:=List.length_map _
 refine zcc (xs:=xs.map fun q=>V.ref q.1) (fun _=>true) (itm xs fun k=>V.bl (zdD y.1 k.2.1&&decide (y.2≤k.2.2))) (SqL.of hx.at_) (fun i x Hh Q' hx sh q'=>q' Hh (Same.refl _)) ?_ (zaF (by rw [ml];omega)) (fun D H2 s2 nD hD=>?_)
 ·intro i x Hh Q' hi _ sh q'
  rw [List.getElem?_map] at hi
  cases e:xs[i]? with
  | none=>rw [e] at hi;cases hi
  | some k=>
    rw [e] at hi
    cases hi
    have hk:=List.mem_of_getElem? e
    obtain ⟨kc,k1,k2⟩:=(hx.ch k hk).ex
    have z:∀H',Same Hh H'→Q' (V.bl (zdD y.1 k.2.1&&decide (y.2≤k.2.2))) H':=fun H' s'=>by
     have z:=q' H' s'
     unfold itm at z
     rw [e] at z
     exact z
    refine ⟨_,rfl,p,_,_,_,rfl,rfl,SqT.of (sh _ _ h1),rfl,_,rfl,k.1,_,_,_,rfl,rfl,SqT.of (sh _ _ k1),rfl,pc,kc,_,_,rfl,h2.same sh,k2.same sh,oy,ox k hk,fun H1 s1=>⟨_,rfl,?_⟩⟩
    have s01:=sh.trans s1
    cases b:zdD y.1 k.2.1 with
    | false=>
      rw [b] at z
      exact iteF (z H1 s1)
    | true=>
      rw [b,Bool.true_and] at z
      exact iteT ⟨_,rfl,p,_,_,_,rfl,rfl,SqT.of (s01 _ _ h1),rfl,_,rfl,k.1,_,_,_,rfl,rfl,SqT.of (s01 _ _ k1),rfl,_,_,rfl,rfl,z H1 s1⟩
 rw [zcG,ml,zd3] at hD
 have hD:H2 D=some (.lst ((xs.map fun k=>zdD y.1 k.2.1&&decide (y.2≤k.2.2)).map V.bl)):=by
  rw [hD,List.map_map]
  rfl
 refine ⟨D,_,rfl,SqL.of hD,?_⟩
 have Z:=q H2 s2
 unfold easd at Z
 rw [show (xs.map fun k=>zdD y.1 k.2.1&&decide (y.2≤k.2.2)).any id=xs.any (fun k=>zdD y.1 k.2.1&&decide (y.2≤k.2.2)) by rw [List.any_map];rfl]
 exact Z
theorem zki:FnScope ["chores","hands","other","other_hands"] ["chores","hands","other","other_hands"] (zac zcP):=⟨rfl,rfl,rfl,by decide +kernel,rfl,by decide +kernel,by decide +kernel⟩
theorem zkj (D:Dfn K mg "eases" zcP ["chores","hands","other","other_hands"] f fd) (T:Txt K mg) (zdr:Cal P w K mg base "is_eased" 3 ["chore","chores"] (zjh K)):Cal P w K mg base "eases" 4 ["chores","hands","other","other_hands"] (zji K):=by
 refine D.cal (D.F.ok zki (fun vs H Q E h=>?_) (fun cdv A outer s H vs Q E hr h=>?_))
 ·obtain ⟨l,m,xs,ys,h1,h2,rfl,_⟩:=h
  rfl
 obtain ⟨l,m,xs,ys,h1,h2,rfl,hx,xl,ox,hy,yl,oy,q⟩:=h
 refine ⟨_,(zaf (zat (zhZ (zb7 zl9 (pv 3) (pv 1) (zay _)) (zgN (zaU (zil rfl) rfl T.znq zmk (zaa (zbS (N:=["chore","chores"]) (js:=[0]) rfl (CompScope.of rfl rfl rfl rfl rfl (by decide +kernel) rfl rfl rfl rfl) (za6 (pv 2)) (fun _ _ _ _ _=>zc1) (fun _ _ _ _ _=>(zam zdr (hr.mono (by decide)) rfl (zaa (pv 0) (zaa (pv 1) zae))))) zae)))))),?_⟩
 refine ⟨_,rfl,_,rfl,_,_,rfl,rfl,_,rfl,?_⟩
 unfold eass at q
 by_cases c:h1≤h2
 ·refine iteD c ?_
  rw [decide_eq_true c] at q
  refine ⟨_,rfl,m,rfl,⟨_,SqL.of hy.at_⟩,?_⟩
  have ml:(ys.map fun q=>V.ref q.1).length=ys.length:=List.length_map _
  refine zcc (xs:=ys.map fun q=>V.ref q.1) (fun _=>true) (itm ys fun k=>V.bl (easd xs k.2)) (SqL.of hy.at_) (fun i x Hh Q' hx sh q'=>q' Hh (Same.refl _)) ?_ (zaF (by rw [ml];omega)) (fun D H2 s2 nD hD=>?_)
  ·intro i x Hh Q' hi _ sh q'
   rw [List.getElem?_map] at hi
   cases e:ys[i]? with
   | none=>rw [e] at hi;cases hi
   | some k=>
     rw [e] at hi
     cases hi
     have hk:=List.mem_of_getElem? e
     refine ⟨_,rfl,_,rfl,k.1,l,k.2,xs,rfl,(hy.ch k hk).same sh,oy k hk,hx.same sh,xl,ox,fun H' s'=>?_⟩
     have z:=q' H' s'
     unfold itm at z
     rw [e] at z
     exact z
  rw [zcG,ml,zd3] at hD
  have hD:H2 D=some (.lst ((ys.map fun k=>easd xs k.2).map V.bl)):=by
   rw [hD,List.map_map]
   rfl
  refine ⟨D,_,rfl,SqL.of hD,?_⟩
  have Z:=q H2 s2
  rw [Bool.true_and] at Z
  rw [show (ys.map fun k=>easd xs k.2).all id=ys.all (fun k=>easd xs k.2) by rw [List.all_map];rfl]
  exact Z
 ·refine zfE c ?_
  have Z:=q H (Same.refl _)
  rw [decide_eq_false c,Bool.false_and] at Z
  exact Z
def Rel1 (M:List (Int × Int)) (c:Ch):Prop:=∀p,p∈M→0<p.2→∃q,q∈c∧q.1.n=p.1∧q.2=p.2
def Rel2 (M:List (Int × Int)) (c:Ch):Prop:=∀q,q∈c→(q.1.n,q.2)∈M
theorem zjj {M:List (Int × Int)} {c:Ch} {ws:List Int} (r:Rel1 M c):Rel1 (M.map (zb1 ws)) (bhC ws c):=fun p hp p0=>by
 obtain ⟨p',hp',rfl⟩:=List.mem_map.mp hp
 have el:0<p'.2∧(zb1 ws p').2=if p'.1∈ws then p'.2-1 else p'.2:=by
  unfold zb1 at p0 ⊢
  by_cases m:p'.1∈ws
  ·simp only [if_pos m] at p0 ⊢
   split at p0
   ·next z=>rw [if_pos z];exact ⟨by omega,rfl⟩
   ·omega
  ·simp only [if_neg m] at p0 ⊢
   exact ⟨p0,trivial⟩
 obtain ⟨q,hq,e1,e2⟩:=r p' hp' el.1
 have e3:zaQ ws q=(zb1 ws p').2:=by
  rw [el.2]
  unfold zaQ
  rw [e1,e2]
 exact ⟨(q.1,zaQ ws q),zg7 hq (by rw [e3];exact p0),e1,e3⟩
theorem zjk {M:List (Int × Int)} {c:Ch} {ws:List Int} (r:Rel2 M c):Rel2 (M.map (zb1 ws)) (bhC ws c):=fun q hq=>by
 obtain ⟨j,hj,rfl,pos⟩:=zgq hq
 refine List.mem_map.mpr ⟨_,r j hj,?_⟩
 unfold zb1
 unfold zaQ at pos ⊢
 by_cases m:j.1.n∈ws
 ·simp only [if_pos m] at pos ⊢
  rw [if_pos pos]
 ·simp only [if_neg m]
theorem zlV {h N:Nat} {b:Int} {c0:Ch} (e:(runN h N b c0).2=[]) (k:Nat):nAtR (runN h N b c0).1 k=wkC (b+k) h (runN h k b c0).2:=by
 unfold nAtR
 by_cases kn:k<N
 ·obtain ⟨i,hi,ei⟩:=List.getElem_of_mem (ze0 (h:=h) (b:=b) (d:=c0) kn)
  have e1:=List.getElem?_eq_getElem hi
  rw [ei] at e1
  have:=zcx h b c0 N i _ e1
  have:i=k:=by
   have:b+(k:Int)=b+i:=this
   omega
  subst this
  rw [e1]
 ·rw [List.getElem?_eq_none (by rw [zeW];omega)]
  have:=zgr e (k-N)
  rw [show N+(k-N)=k by omega] at this
  rw [this]
  unfold wkC csC
  simp [ord]
theorem zfd {h N:Nat} {b:Int} {c0:Ch} {L:List (Int × Int)} (e:(runN h N b c0).2=[]) (r1:Rel1 L c0) (r2:Rel2 L c0):∀k:Nat,Rel1 (zaH (b+k-1) (runN h N b c0).1 L) (runN h k b c0).2∧Rel2 (zaH (b+k-1) (runN h N b c0).1 L) (runN h k b c0).2
 | 0=>by
   have tR:=zcx h b c0 N
   rw [zcw fun r hr=>by
    obtain ⟨i,hi,ei⟩:=List.getElem_of_mem hr
    have:=tR i r (by rw [List.getElem?_eq_getElem hi,ei])
    omega]
   exact ⟨r1,r2⟩
 | k+1=>by
   obtain ⟨a,c⟩:=zfd e r1 r2 k
   have st:=zef (zcx h b c0 N) k L
   rw [zlV e] at st
   rw [show b+((k+1:Nat):Int)-1=b+k by omega,st,zaV]
   exact ⟨zjj a,zjk c⟩
theorem zfZ {t:Int}:∀ {R:List (Int × List Int)} {L:List (Int × Int)},(∀p,p∈L→0≤p.2)→∀p,p∈zaH t R L→0≤p.2
 | [],_,h=>h
 | r::R,L,h=>by
   refine zfZ (R:=R) fun p hp=>?_
   split at hp
   ·obtain ⟨q,hq,rfl⟩:=List.mem_map.mp hp
    have:=h q hq
    unfold zb1
    dsimp only
    split
    ·split<;>omega
    ·exact this
   ·exact h p hp
theorem zel {h h':Nat} (hh:h≤h') (b:Int) (c0:Ch):∀n,Hist h b c0 n (runN h' n b c0).1 (runN h' n b c0).2
 | 0=>.zero
 | n+1=>by
   rw [zaV]
   exact .succ (zel hh b c0 n) hh
theorem zkU {c d:Ch} (l:LeqC c d):LeqC (bhC [] c) (bhC [] d):=fun k hk=>by
 rw [zgp] at hk ⊢
 obtain ⟨h1,h2⟩:=List.mem_filter.mp hk
 have h2:=of_decide_eq_true h2
 obtain ⟨x,hx,m⟩:=l k h1
 exact ⟨x,hx,List.mem_filter.mpr ⟨m,decide_eq_true (by show 0<x;omega)⟩⟩
theorem zhr (xs:List (Addr × Cl × Int)):Rel1 (lfX xs) (bhC [] (xs.map (·.2)))∧Rel2 (lfX xs) (bhC [] (xs.map (·.2))):=by
 refine ⟨fun p hp p0=>?_,fun q hq=>?_⟩
 ·obtain ⟨k,hk,rfl⟩:=List.mem_map.mp hp
  rw [zgp]
  exact ⟨k.2,List.mem_filter.mpr ⟨List.mem_map.mpr ⟨k,hk,rfl⟩,decide_eq_true p0⟩,rfl,rfl⟩
 ·rw [zgp] at hq
  obtain ⟨k,hk,rfl⟩:=List.mem_map.mp (List.mem_filter.mp hq).1
  exact List.mem_map.mpr ⟨k,hk,rfl⟩
theorem zf0 {L:List (Int × Int)} {j x:Int} (h:valI L j=some x):∃q,q∈L∧q.2=x:=by
 unfold valI at h
 rw [Option.map_eq_some_iff] at h
 obtain ⟨q,hq,e⟩:=h
 exact ⟨q,List.mem_of_find?_eq_some hq,e⟩
theorem zhs {H0 H H0' H' Hx Hy:Hp} {h h':Nat} {b:Int} {xs ys:List (Addr × Cl × Int)} {D D' l l':Addr} {rs rs':List (Addr × Addr × Int × List Int)} (R:RunOf H0 H h b (xs.map (·.2)) D rs) (R':RunOf H0' H' h' b (ys.map (·.2)) D' rs') (hX:ChIn K Hx l xs) (hY:ChIn K Hy l' ys) (lq:LeqC (ys.map (·.2)) (xs.map (·.2))) (hh:h≤h') (k:Nat):
  zbH (zaj rs) (zaj rs') (lfX xs) (lfX ys) (b+k)=[]:=by
 obtain ⟨n,e1,e2,_⟩:=R.eq
 obtain ⟨n',f1,f2,_⟩:=R'.eq
 have e1:zaj rs=_:=e1
 have f1:zaj rs'=_:=f1
 rw [e1,f1]
 have A:=(zfd (k:=k+1) e2 (zhr xs).1 (zhr xs).2).2
 have B:=(zfd (k:=k+1) f2 (zhr ys).1 (zhr ys).2).1
 rw [show b+((k+1:Nat):Int)-1=b+k by omega] at A B
 have ll:=((zel hh b (bhC [] (ys.map (·.2))) (k+1)).leq (hY.gd.bh []) (hX.gd.bh []) (zkU lq)).1
 unfold zbH zek
 rw [List.map_eq_nil_iff,List.filter_eq_nil_iff]
 intro p hp z
 have z:=of_decide_eq_true z
 have nn:∀p,p∈lfX xs→0≤p.2:=fun p hp=>by
  obtain ⟨k,hk,rfl⟩:=List.mem_map.mp hp
  exact (hX.ok k hk).l0
 by_cases p0:0<p.2
 ·obtain ⟨q,hq,q1,q2⟩:=B p hp p0
  obtain ⟨x,hx,m⟩:=ll q hq
  have g:=A _ m
  have v:=zgy (p:=(q.1.n,x)) (by rw [zbk];exact zfY hX) g
  have v:valI _ q.1.n=some x:=v
  rw [←q1,v] at z
  have z:x<p.2:=z
  omega
 ·cases v:valI (zaH (b+k) (runN h n b (bhC [] (xs.map (·.2)))).1 (lfX xs)) p.1 with
  | none=>rw [v] at z;have z:0<p.2:=z;omega
  | some x=>
    rw [v] at z
    have z:x<p.2:=z
    obtain ⟨q,hq,eq⟩:=zf0 v
    have:=zfZ nn q hq
    omega
theorem zkk {H0 H H0' H' Hx Hy:Hp} {h h':Nat} {b:Int} {xs ys:List (Addr × Cl × Int)} {D D' l l':Addr} {rs rs':List (Addr × Addr × Int × List Int)} (R:RunOf H0 H h b (xs.map (·.2)) D rs) (R':RunOf H0' H' h' b (ys.map (·.2)) D' rs') (hX:ChIn K Hx l xs) (hY:ChIn K Hy l' ys) (lq:LeqC (ys.map (·.2)) (xs.map (·.2))) (hh:h≤h'):
  ∀j v,valI (zb0 (zaj rs') []) j=some v→∃u,valI (zb0 (zaj rs) []) j=some u∧v≤u:=by
 obtain ⟨n,e1,e2,_⟩:=R.eq
 obtain ⟨n',f1,f2,_⟩:=R'.eq
 have e1:zaj rs=_:=e1
 have f1:zaj rs'=_:=f1
 rw [e1,f1]
 exact (zel hh b (bhC [] (ys.map (·.2))) n').later (hY.gd.bh []) (hX.gd.bh []) (zkU lq) (fun k hk=>zd8 hk) n e2
theorem RunOf.turns {H0 H:Hp} {h:Nat} {b:Int} {c:Ch} {D:Addr} {rs:List (Addr × Addr × Int × List Int)} (R:RunOf H0 H h b c D rs):ze7 b (zaj rs):=by
 obtain ⟨n,e,_,_⟩:=R.eq
 have e:zaj rs=(runN h n b (bhC [] c)).1:=e
 rw [e]
 exact zcx h b _ n
theorem zkl {L:List (Int × Int)} {c:Ch}:LeqC (takC L c) c:=fun k hk=>by
 obtain ⟨j,hj,rfl⟩:=List.mem_map.mp hk
 refine ⟨j.2,?_,hj⟩
 show tkN L j≤j.2
 unfold tkN
 split<;>omega
theorem zmY {c d e:Ch} (a:LeqC c d) (b:LeqC d e):LeqC c e:=fun k hk=>by
 obtain ⟨x,hx,m⟩:=a k hk
 obtain ⟨y,hy,m'⟩:=b _ m
 exact ⟨y,Int.le_trans hx hy,m'⟩
theorem zjl {xs ys:List (Addr × Cl × Int)} {h h':Int} (hh:h≤h') (lq:LeqC (ys.map (·.2)) (xs.map (·.2))):eass xs ys h h'=true:=by
 unfold eass
 rw [decide_eq_true hh,Bool.true_and]
 refine List.all_eq_true.mpr fun y hy=>?_
 obtain ⟨x,hx,m⟩:=lq y.2 (List.mem_map.mpr ⟨y,hy,rfl⟩)
 obtain ⟨k,hk,ek⟩:=List.mem_map.mp m
 unfold easd
 refine List.any_eq_true.mpr ⟨k,hk,?_⟩
 rw [show k.2.1=y.2.1 by rw [ek],show k.2.2=x by rw [ek],decide_eq_true hx,Bool.and_true]
 unfold zdD
 exact decide_eq_true ⟨rfl,rfl,rfl,rfl⟩
theorem zgC:FnScope ["_law_script","_law_k"] ["_law_script","_law_k"] (zac zbE):=⟨rfl,rfl,rfl,by decide +kernel,rfl,by decide +kernel,by decide +kernel⟩
theorem zgD (D:Dfn K mg "_law_cell" zbE ["_law_script","_law_k"] f fd) (T:Txt K mg):Cal P w K mg base "_law_cell" 1 ["_law_script","_law_k"] (zhi K):=by
 refine D.cal (D.F.ok zgC (fun vs H Q E h=>?_) (fun cdv A outer s H vs Q E hr h=>?_))
 ·obtain ⟨a,ns,k,rfl,_⟩:=h
  rfl
 obtain ⟨a,ns,k,rfl,hS,k0,q⟩:=h
 refine ⟨_,(zad (zcf (zaw zl8 (pv 1) (zaU zba rfl T.zgu zdY (zaa (pv 0) zae)) (zay _)) (zaf (zat (zau zch (pv 0) (pv 1) (fun _ _=>rfl)))) zaY)
  (zaf (zat (zai za8 (zai zbQ zab (pv 1)) zab)))),?_⟩
 refine ⟨_,rfl,_,rfl,a,_,rfl,.inl hS,_,_,rfl,rfl,_,rfl,?_⟩
 refine ite2 (fun c=>?_) (fun c=>?_)
 ·have c':k<(((ns.map V.int).length:Nat):Int):=of_decide_eq_true c
  rw [List.length_map] at c'
  have hk:k.toNat<ns.length:=by omega
  have z:atI (ns.map V.int) ((k.toNat:Nat):Int)=some (.int ns[k.toNat]):=zlb (by rw [List.getElem?_map,List.getElem?_eq_getElem hk]<;>rfl)
  rw [show ((k.toNat:Nat):Int)=k by omega] at z
  exact ⟨_,rfl,_,rfl,a,_,_,_,rfl,rfl,hS,z,q _⟩
 ·exact ⟨_,rfl,_,_,rfl,rfl,.inl ⟨by decide,by decide⟩,_,_,rfl,rfl,q _⟩
theorem zds:FnScope ["_law_cell_here","_law_k","_law_number"] ["_law_cell_here","_law_k"] (zac zbV):=⟨rfl,rfl,rfl,by decide +kernel,rfl,by decide +kernel,by decide +kernel⟩
theorem zhO (D:Dfn K mg "_law_mix" zbV ["_law_cell_here","_law_k"] f fd) (T:Txt K mg):Cal P w K mg base "_law_mix" 1 ["_law_cell_here","_law_k"] zkg:=by
 refine D.cal (D.F.ok zds (fun vs H Q E h=>?_) (fun cdv A outer s H vs Q E hr h=>?_))
 ·obtain ⟨x,k,rfl,_⟩:=h
  rfl
 obtain ⟨x,k,rfl,q⟩:=h
 refine ⟨_,(zad (zan (i:=2) zds.nd rfl (Or.inl rfl) (zai zaB (zai zbQ (zai za8 (zai za8 (zai zaB (pv 0) zab) (zai zbQ zab (pv 1))) zab) zab) zab))
  (zad (zan (i:=2) zds.nd rfl (Or.inl rfl) (zai zaB (zai zbQ (pv 2) (pv 2)) zab))
  (zaf (zat (zai zaB (zai zbQ (pv 2) (zai za8 (pv 2) zab)) zab))))),?_⟩
 refine ⟨_,rfl,_,_,rfl,rfl,(by show (0:Int)<_;decide),_,rfl,_,_,rfl,rfl,.inl ⟨by decide,by decide⟩,_,_,rfl,rfl,_,_,rfl,rfl,_,_,rfl,rfl,.inr ⟨by decide,by decide⟩,_,_,rfl,rfl,(by show (0:Int)<_;decide),?_⟩
 have m0:=Int.emod_nonneg ((x % 2147483629+7919*k+101)*48271) (show (2147483647:Int)≠0 by decide)
 have m1:=Int.emod_lt_of_pos ((x % 2147483629+7919*k+101)*48271) (show (0:Int)<2147483647 by decide)
 dsimp only
 generalize (x % 2147483629+7919*k+101)*48271 % 2147483647=n1 at m0 m1 ⊢
 refine ⟨_,rfl,_,rfl,_,_,rfl,rfl,.inl ⟨by omega,by omega⟩,_,_,rfl,rfl,(by show (0:Int)<_;decide),?_⟩
 have m2:=Int.emod_nonneg (n1*n1) (show (2147483629:Int)≠0 by decide)
 have m3:=Int.emod_lt_of_pos (n1*n1) (show (0:Int)<2147483629 by decide)
 dsimp only
 generalize n1*n1 % 2147483629=n2 at m2 m3 ⊢
 refine ⟨_,rfl,_,rfl,_,_,rfl,rfl,_,_,rfl,rfl,.inl ⟨by omega,by omega⟩,_,_,rfl,rfl,(by show (0:Int)<_;decide),?_⟩
 exact q _ (Int.emod_nonneg _ (by decide))
theorem zgE:FnScope ["_law_cell_here","_law_k"] ["_law_cell_here","_law_k"] (zac zbF):=⟨rfl,rfl,rfl,by decide +kernel,rfl,by decide +kernel,by decide +kernel⟩
theorem zgF (D:Dfn K mg "_law_draw" zbF ["_law_cell_here","_law_k"] f fd) (T:Txt K mg) (zbh:Cal P w K mg base "_law_mix" 1 ["_law_cell_here","_law_k"] zkg):Cal P w K mg base "_law_draw" 2 ["_law_cell_here","_law_k"] zfT:=by
 refine D.cal (D.F.ok zgE (fun vs H Q E h=>?_) (fun cdv A outer s H vs Q E hr h=>?_))
 ·obtain ⟨x,y,rfl,_⟩:=h
  rfl
 obtain ⟨x,k,rfl,k0,q⟩:=h
 refine ⟨_,(zgh (zcf (PW.pt (zgL (zaw zl9 (pv 0) (zai zkr zab zab) (zay _)) (zeN (zaw zcs (zai zks (pv 0) (zai zbQ zab (pv 1))) zab (zay _))))) (zaf (zat (zai zaB (zai zks (pv 0) (zai zbQ zab (pv 1))) (zai zkr zab zab)))) zaY)
  (zaf (zat (zam zbh (hr.mono (by decide)) rfl (zaa (pv 0) (zaa (zai za8 zab (pv 1)) zae)))))),?_⟩
 refine ⟨fun σ' H' => σ'=[some (.int x),some (.int k)]∧H'=H,?_,?_⟩
 ·refine ⟨_,rfl,_,_,rfl,rfl,⟨by decide,by decide,by decide⟩,_,_,rfl,rfl,_,rfl,?_⟩
  refine ite2 (fun c=>?_) (fun c=>?_)
  ·refine ⟨_,rfl,_,rfl,_,_,rfl,rfl,.inl ⟨by decide,by decide⟩,_,_,rfl,rfl,by show 0≤40*k;omega,_,_,rfl,rfl,_,rfl,?_⟩
   refine ite2 (fun c2=>?_) (fun c2=>?_)
   ·refine ⟨_,rfl,_,rfl,_,_,rfl,rfl,.inl ⟨by decide,by decide⟩,_,_,rfl,rfl,by show 0≤40*k;omega,_,_,rfl,rfl,⟨by decide,by decide,by decide⟩,_,_,rfl,rfl,(by show (0:Int)<_;decide),?_⟩
    rw [znt]
    exact q _ (Int.emod_nonneg _ (by decide))
   ·exact ⟨rfl,rfl⟩
  ·exact ⟨rfl,rfl⟩
 ·rintro σ' H' ⟨rfl,rfl⟩
  exact ⟨_,rfl,_,rfl,_,_,rfl,rfl,x,_,rfl,fun r r0=>q r r0⟩
theorem zfe:FnScope ["_law_number"] ["_law_number"] (zac zbe):=⟨rfl,rfl,rfl,by decide +kernel,rfl,by decide +kernel,by decide +kernel⟩
theorem zff (D:Dfn K mg "_law_weight" zbe ["_law_number"] f fd) (T:Txt K mg):Cal P w K mg base "_law_weight" 1 ["_law_number"] zfU:=by
 refine D.cal (D.F.ok zfe (fun vs H Q E h=>?_) (fun cdv A outer s H vs Q E hr h=>?_))
 ·obtain ⟨n,rfl,_⟩:=h
  rfl
 obtain ⟨n,rfl,n0,q⟩:=h
 refine ⟨_,(zad (zcf (zaw zfq (zai zaB (pv 0) zab) zab (zay _)) (zaf (zat (zaZ (zaa (zai zaB (zai za7 (pv 0) zab) zab) (zaa (zai za8 zab (zai zaB (zai za7 (pv 0) zab) zab)) zae))))) zaY)
  (zaf (zat (zaZ (zaa (zai zaB (zai za7 (pv 0) zab) zab) (zaa (zai za8 zab (zai zaB (zai za7 (pv 0) zab) zab)) zae)))))),?_⟩
 refine ⟨_,rfl,_,_,rfl,rfl,(by show (0:Int)<_;decide),rfl,_,rfl,?_⟩
 refine ite2 (fun c=>?_) (fun c=>?_)
 ·refine ⟨_,rfl,_,_,rfl,rfl,⟨by decide,by decide⟩,_,_,rfl,rfl,(by show (0:Int)<_;decide),_,rfl,_,_,rfl,rfl,⟨by decide,by decide⟩,_,_,rfl,rfl,(by show (0:Int)<_;decide),_,_,rfl,rfl,sz 2 (by decide),fun p H1 s1 n1 h1=>?_⟩
  exact q p _ _ H1 s1 ⟨h1,by omega,by omega,by omega,by omega⟩
 ·refine ⟨_,rfl,_,_,rfl,rfl,⟨by decide,by decide⟩,_,_,rfl,rfl,(by show (0:Int)<_;decide),_,rfl,_,_,rfl,rfl,⟨by decide,by decide⟩,_,_,rfl,rfl,(by show (0:Int)<_;decide),_,_,rfl,rfl,sz 2 (by decide),fun p H1 s1 n1 h1=>?_⟩
  exact q p _ _ H1 s1 ⟨h1,by omega,by omega,by omega,by omega⟩
theorem zdC:FnScope ["_law_script","_law_number"] ["_law_script"] (zac zbt):=⟨rfl,rfl,rfl,by decide +kernel,rfl,by decide +kernel,by decide +kernel⟩
theorem zf1 (D:Dfn K mg "_law_begin" zbt ["_law_script"] f fd) (T:Txt K mg) (za5:Cal P w K mg base "_law_cell" 1 ["_law_script","_law_k"] (zhi K)) (zav:Cal P w K mg base "_law_draw" 2 ["_law_cell_here","_law_k"] zfT):Cal P w K mg base "_law_begin" 3 ["_law_script"] (zhj K):=by
 refine D.cal (D.F.ok zdC (fun vs H Q E h=>?_) (fun cdv A outer s H vs Q E hr h=>?_))
 ·obtain ⟨a,ns,rfl,_⟩:=h
  rfl
 obtain ⟨a,ns,rfl,hS,q⟩:=h
 refine ⟨_,(zad (zan (i:=1) zdC.nd rfl (Or.inl rfl) (zam zav (hr.mono (by decide)) rfl (zaa (zam za5 (hr.mono (by decide)) rfl (zaa (pv 0) (zaa zab zae))) (zaa zab zae))))
  (zaf (zat (zau zch (zbb (pai (zal (zai zaB (zai za7 (pv 1) zab) zab) (zal (zai zaB (zai za7 (pv 1) zab) zab) (zal zab (zal (zai zaB (zai za7 (pv 1) zab) zab) zb8)))))) (zai zaB (pv 1) zab) (fun _ _=>rfl))))),?_⟩
 refine ⟨_,rfl,a,ns,_,rfl,hS,by decide,fun cell=>⟨cell,_,rfl,by decide,fun n n0=>?_⟩⟩
 refine ⟨_,rfl,_,_,rfl,rfl,⟨by decide,by decide⟩,_,_,rfl,rfl,(by show (0:Int)<_;decide),_,rfl,_,_,rfl,rfl,⟨by decide,by decide⟩,_,_,rfl,rfl,(by show (0:Int)<_;decide),_,rfl,_,_,rfl,rfl,⟨by decide,by decide⟩,_,_,rfl,rfl,(by show (0:Int)<_;decide),sz 4 (by decide),fun l1 H1 s1 n1 h1=>?_⟩
 refine ⟨_,rfl,_,_,rfl,rfl,(by show (0:Int)<_;decide),?_⟩
 obtain ⟨v,ev,hv⟩:=at4 (n / 4 % 12) (n / 4 % 12) 0 (n / 4 % 501) n
 exact ⟨l1,_,_,_,rfl,rfl,SqL.of h1,ev,q v H1 s1 (by omega) (by omega)⟩
theorem zb5:FnScope ["_law_cell_here","_law_number","_law_begin_here","_law_most","_law_came","_law_left"] ["_law_cell_here","_law_number","_law_begin_here","_law_most"] (zac zbu):=⟨rfl,rfl,rfl,by decide +kernel,rfl,by decide +kernel,by decide +kernel⟩
theorem zf2 (D:Dfn K mg "_law_chore" zbu ["_law_cell_here","_law_number","_law_begin_here","_law_most"] f fd) (T:Txt K mg) (zav:Cal P w K mg base "_law_draw" 2 ["_law_cell_here","_law_k"] zfT) (zb6:Cal P w K mg base "_law_weight" 1 ["_law_number"] zfU):Cal P w K mg base "_law_chore" 3 ["_law_cell_here","_law_number","_law_begin_here","_law_most"] (zi7 K):=by
 refine D.cal (D.F.ok zb5 (fun vs H Q E h=>?_) (fun cdv A outer s H vs Q E hr h=>?_))
 ·obtain ⟨x,n,b,m,rfl,_⟩:=h
  rfl
 obtain ⟨x,n,b,m,rfl,n0,b0,b1,m0,m1,q⟩:=h
 refine ⟨_,(zad (zan (i:=4) zb5.nd rfl (Or.inl rfl) (zaU (zfr rfl) rfl T.zmQ zkx (zaa zab (zaa (zai za8 (zai zfp (pv 2) zab) (zai zaB (zam zav (hr.mono (by decide)) rfl (zaa (pv 0) (zaa zab zae))) zab)) zae))))
  (zgh (zcf (PW.pt (zgL (zaw zfq (pv 3) zab (zay _)) (zeN (zaw zfq (zai zaB (zai za7 (zam zav (hr.mono (by decide)) rfl (zaa (pv 0) (zaa zab zae))) zab) zab) zab (zay _))))) (zaf (zan (i:=4) zb5.nd rfl (Or.inl rfl) (zai za8 (pv 2) (zai zaB (zai za7 (zam zav (hr.mono (by decide)) rfl (zaa (pv 0) (zaa zab zae))) zab) zab)))) zaY)
  (zad (zan (i:=5) zb5.nd rfl (Or.inl rfl) (zai zaB (zam zav (hr.mono (by decide)) rfl (zaa (pv 0) (zaa zab zae))) (zai za8 (pv 3) zab)))
  (zaf (zat (zaZ (zaa (zaZ (pai (zal (pv 1) (zal (zam zb6 (hr.mono (by decide)) rfl (zaa (zam zav (hr.mono (by decide)) rfl (zaa (pv 0) (zaa zab zae))) zae)) (zal (zam zb6 (hr.mono (by decide)) rfl (zaa (zam zav (hr.mono (by decide)) rfl (zaa (pv 0) (zaa zab zae))) zae)) (zal (pv 4) zb8)))))) (zaa (pv 5) zae)))))))),?_⟩
 refine ⟨_,rfl,_,_,rfl,rfl,_,rfl,x,_,rfl,by decide,fun r r0=>⟨_,_,rfl,rfl,(by show (0:Int)<_;decide),_,_,rfl,rfl,_,_,rfl,?_⟩⟩
 refine ⟨fun σ' H'=>∃came:Int,σ'=[some (.int x),some (.int n),some (.int b),some (.int m),some (.int came),none]∧H'=H∧0≤came∧came≤1000,?_,?_⟩
 ·refine ⟨_,rfl,rfl,_,rfl,?_⟩
  have keep:∃came:Int,[some (.int x),some (.int n),some (.int b),some (.int m),some (V.int (if b-9+r % 18 > 0 then b-9+r % 18 else 0)),none]=[some (.int x),some (.int n),some (.int b),some (.int m),some (.int came),none]∧H=H∧0≤came∧came≤1000:=⟨_,rfl,rfl,by split<;>omega,by split<;>omega⟩
  refine ite2 (fun c=>?_) (fun c=>keep)
  refine ⟨_,rfl,x,_,rfl,by decide,fun r2 r20=>⟨_,_,rfl,rfl,⟨by decide,by decide⟩,_,_,rfl,rfl,(by show (0:Int)<_;decide),rfl,_,rfl,?_⟩⟩
  refine ite2 (fun c=>?_) (fun c=>keep)
  refine ⟨_,rfl,_,rfl,x,_,rfl,by decide,fun r3 r30=>⟨_,_,rfl,rfl,⟨by decide,by decide⟩,_,_,rfl,rfl,(by show (0:Int)<_;decide),_,_,rfl,rfl,_,rfl,rfl,by omega,by omega⟩⟩
 ·rintro σ' H' ⟨came,rfl,rfl,c0,c1⟩
  refine ⟨_,rfl,x,_,rfl,by decide,fun r4 r40=>⟨_,rfl,_,_,rfl,rfl,_,_,rfl,rfl,by show 0<m+1;omega,?_⟩⟩
  have l0:=Int.emod_nonneg r4 (show m+1≠0 by omega)
  have l1:=Int.emod_lt_of_pos r4 (show 0<m+1 by omega)
  refine ⟨_,rfl,_,rfl,x,_,rfl,by decide,fun r5 r50=>⟨r5,rfl,r50,fun pw t d H1 s1 w1=>?_⟩⟩
  refine ⟨_,rfl,x,_,rfl,by decide,fun r6 r60=>⟨r6,rfl,r60,fun pz t2 d2 H2 s2 w2=>?_⟩⟩
  refine ⟨_,rfl,sz 4 (by decide),fun pc H3 s3 n3 h3=>⟨_,rfl,sz 2 (by decide),fun p H4 s4 n4 h4=>?_⟩⟩
  have w1':=(w1.same s2).same (s3.trans s4)
  have w2':=w2.same (s3.trans s4)
  exact q p (⟨n,t,d,t2,d2,came⟩,r4 % (m+1)) H4 (s1.trans (s2.trans (s3.trans s4))) ⟨pc,h4,⟨pw,pz,s4 _ _ h3,w1'.at_,w2'.at_⟩⟩ ⟨⟨n0,w1'.t0,w1'.t1,w1'.b0,w1'.b1,w2'.t0,w2'.t1,w2'.b0,w2'.b1,c0,by show came≤_;omega⟩,l0,by show r4 % (m+1)≤12;omega,c1⟩ rfl
theorem zaG:FnScope ["_law_script","_law_start","_law_begin_here","_law_number","_law_many","_law_most","_law_first","_law_wide","_law_chores_here","_law_k"] ["_law_script","_law_start","_law_begin_here"] (zac zbf):=⟨rfl,rfl,rfl,by decide +kernel,rfl,by decide +kernel,by decide +kernel⟩
theorem zfg (D:Dfn K mg "_law_chores" zbf ["_law_script","_law_start","_law_begin_here"] f fd) (T:Txt K mg) (za5:Cal P w K mg base "_law_cell" 1 ["_law_script","_law_k"] (zhi K)) (zav:Cal P w K mg base "_law_draw" 2 ["_law_cell_here","_law_k"] zfT) (zcV:Cal P w K mg base "_law_chore" 3 ["_law_cell_here","_law_number","_law_begin_here","_law_most"] (zi7 K)):Cal P w K mg base "_law_chores" 4 ["_law_script","_law_start","_law_begin_here"] (zhk K):=by
 refine D.cal (D.F.ok zaG (fun vs H Q E h=>?_) (fun cdv A outer s H vs Q E hr h=>?_))
 ·obtain ⟨a,ns,k,b,rfl,_⟩:=h
  rfl
 obtain ⟨a,ns,k,b,rfl,hS,k0,b0,b1,q⟩:=h
 refine ⟨_,(zad (zan (i:=3) zaG.nd rfl (Or.inl rfl) (zam zav (hr.mono (by decide)) rfl (zaa (zam za5 (hr.mono (by decide)) rfl (zaa (pv 0) (zaa zab zae))) (zaa zab zae))))
  (zad (zan (i:=4) zaG.nd rfl (Or.inl rfl) (zau zch (zbb (zaa (zai zaB (zai za7 (pv 3) zab) zab) (zaa (zai za8 zab (zai zaB (zai za7 (pv 3) zab) zab)) zae))) (zbK zcX rfl T.zi6 zfC (zaa (zb7 zcs (zai zaB (pv 3) zab) zab (zay _)) zae)) (fun _ _=>rfl)))
  (zgh (zcf (zaw zfq (zai zaB (zai za7 (pv 3) zab) zab) zab (zay _)) (zaf (zan (i:=4) zaG.nd rfl (Or.inl rfl) zab)) zaY)
  (zad (zan (i:=5) zaG.nd rfl (Or.inl rfl) (zau zch (zbb (zaa zab (zaa zab zae))) (zbK zcX rfl T.zi6 zfC (zaa (zb7 zcs (pv 4) zab (zay _)) zae)) (fun _ _=>rfl)))
  (zad (zan (i:=6) zaG.nd rfl (Or.inl rfl) (zai zaB (zai za7 (pv 3) zab) zab))
  (zad (zan (i:=7) zaG.nd rfl (Or.inl rfl) (zau zch (zbb (zaa zab (zaa zab (zaa zab zae)))) (zai zaB (zai za7 (pv 3) zab) zab) (fun _ _=>rfl)))
  (zad (zan (i:=8) zaG.nd rfl (Or.inl rfl) (zbb zae))
  (zad (zcp PassesOwn.never rfl (zh1 rfl T.zlS (zaa (pv 4) zae)) (zaO (i:=9) zaG.nd rfl (Or.inl rfl)) (zaf (zeP (zle PySem.F.plainAttrs_list PySem.F.slot_list_append PySem.F.type_list_append zdc (pv 8) (zaa (zam zcV (hr.mono (by decide)) rfl (pai (zal (zam za5 (hr.mono (by decide)) rfl (zaa (pv 0) (zaa (zai za8 (pv 1) (pv 9)) zae))) (zal (zai zbQ (zai zaB (zai za8 (zai zbQ zab (pv 9)) (pv 6)) zab) (pv 7)) (zal (pv 2) (zal (pv 5) zb8)))))) zae)))))
  (zaf (zat (pv 8))))))))))),?_⟩
 refine ⟨_,rfl,a,ns,_,rfl,hS,by decide,fun cell=>⟨cell,_,rfl,by decide,fun n n0=>?_⟩⟩
 refine ⟨_,rfl,_,_,rfl,rfl,⟨by decide,by decide⟩,_,_,rfl,rfl,(by show (0:Int)<_;decide),_,rfl,_,_,rfl,rfl,⟨by decide,by decide⟩,_,_,rfl,rfl,(by show (0:Int)<_;decide),_,_,rfl,rfl,sz 2 (by decide),fun l1 H1 s1 n1 h1=>?_⟩
 refine ⟨_,rfl,_,_,rfl,rfl,(by show (0:Int)<_;decide),_,_,rfl,rfl,.inr ⟨_,rfl,?_⟩⟩
 have hm:∃many:Int,atI [V.int (n / 8 % 9),V.int (2+n / 8 % 6)] (if decide ((1:Int)<n % 8)=true then 1 else 0)=some (.int many)∧0≤many∧many≤40:=by
  cases decide ((1:Int)<n % 8) with
  | false=>exact ⟨_,rfl,by omega,by omega⟩
  | true=>exact ⟨_,rfl,by omega,by omega⟩
 obtain ⟨many,em,m0,m1⟩:=hm
 refine ⟨l1,_,_,_,rfl,rfl,SqL.of h1,em,?_⟩
 refine ⟨fun σ' H'=>∃many:Int,σ'=[some (.ref a),some (.int k),some (.int b),some (.int n),some (.int many),none,none,none,none,none]∧H'=H1∧0≤many∧many≤40,?_,?_⟩
 ·refine ⟨_,rfl,_,_,rfl,rfl,⟨by decide,by decide⟩,_,_,rfl,rfl,(by show (0:Int)<_;decide),rfl,_,rfl,?_⟩
  exact ite2 (fun c=>⟨_,rfl,rfl,by decide,by decide⟩) (fun c=>⟨_,rfl,rfl,m0,m1⟩)
 ·clear em m0 m1
  rintro σ' H' ⟨many,rfl,rfl,m0,m1⟩
  refine ⟨sz 2 (by decide),fun l2 H2 s2 n2 h2=>⟨_,rfl,_,_,rfl,rfl,.inr ⟨_,rfl,?_⟩⟩⟩
  have hq:∃most:Int,atI [V.int 12,V.int 3] (if decide ((8:Int)<many)=true then 1 else 0)=some (.int most)∧0≤most∧most≤12:=by
   cases decide ((8:Int)<many) with
   | false=>exact ⟨_,rfl,by decide,by decide⟩
   | true=>exact ⟨_,rfl,by decide,by decide⟩
  obtain ⟨most,eq,q0,q1⟩:=hq
  refine ⟨l2,_,_,_,rfl,rfl,SqL.of h2,eq,?_⟩
  refine ⟨_,rfl,_,_,rfl,rfl,⟨by decide,by decide⟩,_,_,rfl,rfl,(by show (0:Int)<_;decide),?_⟩
  have f0:0≤n / 864 % 41:=by omega
  dsimp only
  generalize n / 864 % 41=fi at f0 ⊢
  refine ⟨sz 3 (by decide),fun l3 H3 s3 n3 h3=>⟨_,rfl,_,_,rfl,rfl,⟨by decide,by decide⟩,_,_,rfl,rfl,(by show (0:Int)<_;decide),?_⟩⟩
  obtain ⟨v3,e3,z3⟩:=at_3 (.int 1) (.int 1) (.int 1000003) (r:=n / 35424 % 3) (by omega) (by omega)
  have z3:∃wide:Int,v3=.int wide∧0<wide∧wide≤1000003:=by
   rcases z3 with rfl | rfl | rfl
   ·exact ⟨_,rfl,by decide,by decide⟩
   ·exact ⟨_,rfl,by decide,by decide⟩
   ·exact ⟨_,rfl,by decide,by decide⟩
  obtain ⟨wide,rfl,w0,w1⟩:=z3
  refine ⟨l3,_,_,_,rfl,rfl,SqL.of h3,e3,?_⟩
  refine ⟨sz 0 (by decide),fun lc H4 s4 n4 h4=>?_⟩
  have s14:=s1.trans (s2.trans (s3.trans s4))
  have nlc:H lc=none:=Same.free (s1.trans (s2.trans s3)) n4
  refine ⟨_,rfl,_,rfl,by omega,by omega,?_⟩
  refine zh3 (fun i σ H5=>∃(v9:Option V) (xs:List (Addr × Cl × Int)),σ=[some (.ref a),some (.int k),some (.int b),some (.int n),some (.int many),some (.int most),some (.int fi),some (.int wide),some (.ref lc),v9]∧Same H H5∧IsChs K H5 lc xs∧(∀q,q∈xs→ChOk 1000 q.2)∧xs.map (·.2.1.n)=(List.range i).map fun (j:Nat)=>(17*(j:Int)+fi) % 41*wide)
   ⟨_,[],rfl,s14,⟨h4,fun q hq=>by simp at hq⟩,fun q hq=>by simp at hq,rfl⟩ ?_ ?_
  ·rintro i σ H5 hi ⟨v9,xs,rfl,s5,hx,ox,en⟩
   have xl:xs.length=i:=by
    have:=congrArg List.length en
    simpa using this
   refine ⟨_,rfl,.inl ⟨rfl,_,SqL.of hx.at_⟩,_,rfl,_,rfl,_,rfl,_,_,rfl,rfl,a,ns,_,rfl,s5.seq hS,by show 0≤k+(0+(i:Int));omega,fun cell2=>?_⟩
   have wn:0≤(17*(0+(i:Int))+fi) % 41*wide:=Int.mul_nonneg (by omega) (by omega)
   refine ⟨_,rfl,_,_,rfl,rfl,.inl ⟨by decide,by decide⟩,_,rfl,_,_,rfl,rfl,_,_,rfl,rfl,(by show (0:Int)<_;decide),_,rfl,_,_,rfl,rfl,.inr ⟨by omega,by omega⟩,_,rfl,_,rfl,cell2,_,b,most,rfl,wn,b0,b1,q0,q1,fun p y H6 s6 hy oy ny=>?_⟩
   have hx6:=hx.same s6
   refine ⟨lc,_,_,rfl,rfl,hx6.at_,zaF (by rw [List.length_map];omega),fun H7 k7 h7=>?_⟩
   refine ⟨_,xs++[(p,y)],rfl,(s5.trans s6).but nlc k7,⟨by rw [h7,List.map_append];rfl,fun q' hq=>?_⟩,fun q' hq=>?_,?_⟩
   ·rcases List.mem_append.mp hq with hq | hq
    ·exact (hx6.ch q' hq).but k7 hx6.at_
    ·rw [List.mem_singleton.mp hq]
     exact hy.but k7 hx6.at_
   ·rcases List.mem_append.mp hq with hq | hq
    ·exact ox q' hq
    ·rw [List.mem_singleton.mp hq]
     exact oy
   ·rw [List.map_append,en,List.range_succ,List.map_append]
    congr 1
    show [y.1.n]=[(17*(i:Int)+fi) % 41*wide]
    rw [ny,Int.zero_add]
  ·rintro σ H5 ⟨v9,xs,rfl,s5,hx,ox,en⟩
   have xl:xs.length=many.toNat:=by
    have:=congrArg List.length en
    simpa using this
   refine ⟨_,rfl,q lc xs H5 s5 nlc hx (by omega) ox ?_⟩
   rw [en,List.nodup_iff_pairwise_ne,List.pairwise_map]
   refine List.Pairwise.imp_of_mem (fun {i j} hi hj ne z=>ne ?_) (List.nodup_iff_pairwise_ne.mp List.nodup_range)
   have hi:=List.mem_range.mp hi
   have hj:=List.mem_range.mp hj
   have:=Int.eq_of_mul_eq_mul_right (by omega) z
   omega
def zht (K:PySem.W.Frag):Sp:=fun vs H Q _=>∃(l:Addr) (x:Int) (xs:List (Addr × Cl × Int)),vs=[.ref l,.int x]∧ChIn K H l xs∧∀l' ys H',Same H H'→H l'=none→ChIn K H' l' ys→LeqC (ys.map (·.2)) (xs.map (·.2))→Q (.ref l') H'
theorem zbm:FnScope ["_law_chores_here","_law_cell_here","_law_others","_law_k","_law_claim","_law_left","_law_number"] ["_law_chores_here","_law_cell_here"] (zac zbg):=⟨rfl,rfl,rfl,by decide +kernel,rfl,by decide +kernel,by decide +kernel⟩
theorem zfh (D:Dfn K mg "_law_easier" zbg ["_law_chores_here","_law_cell_here"] f fd) (T:Txt K mg) (zbh:Cal P w K mg base "_law_mix" 1 ["_law_cell_here","_law_k"] zkg):Cal P w K mg base "_law_easier" 2 ["_law_chores_here","_law_cell_here"] (zht K):=by
 refine D.cal (D.F.ok zbm (fun vs H Q E h=>?_) (fun cdv A outer s H vs Q E hr h=>?_))
 ·obtain ⟨l,x,xs,rfl,_⟩:=h
  rfl
 obtain ⟨l,cell,xs,rfl,hI,q⟩:=h
 refine ⟨_,(zad (zan (i:=2) zbm.nd rfl (Or.inl rfl) (zbb zae))
  (zad (zcp PassesOwn.never rfl (ziq rfl T.zeg (zaa (pv 0) zae)) (zdv rfl (zaT (zaO (i:=3) zbm.nd rfl (Or.inl rfl)) (zaT (zdv rfl (zaT (zaO (i:=4) zbm.nd rfl (Or.inl rfl)) (zaT (zaO (i:=5) zbm.nd rfl (Or.inl rfl)) zcr))) zcr))) (zad (zan (i:=6) zbm.nd rfl (Or.inl rfl) (zam zbh (hr.mono (by decide)) rfl (zaa (pv 1) (zaa (zai za8 zab (pv 3)) zae))))
  (zaf (zcf (zaw zcs (zai zaB (pv 6) zab) zab (zay _)) (zaf (zeP (zle PySem.F.plainAttrs_list PySem.F.slot_list_append PySem.F.type_list_append zdc (pv 2) (zaa (zaZ (zaa (pv 4) (zaa (zau zch (zbb (zaa (pv 5) (zaa (pv 5) (zaa (zai zfp (pv 5) (zai zaB (zai za7 (pv 6) zab) (zai za8 (pv 5) zab))) zae)))) (zai zaB (zai za7 (pv 6) zab) zab) (fun _ _=>rfl)) zae))) zae)))) zaY))))
  (zad (zcf (zaw zfq (zai zaB (zam zbh (hr.mono (by decide)) rfl (zaa (pv 1) (zaa zab zae))) zab) zab (zay _)) (zaf (zeP (zmj PySem.F.plainAttrs_list PySem.F.slot_list_reverse PySem.F.type_list_reverse zlk (pv 2)))) zaY)
  (zaf (zat (pv 2)))))),?_⟩
 refine ⟨sz 0 (by decide),fun lo H1 s1 n1 h1=>?_⟩
 refine ⟨_,rfl,l,rfl,⟨_,SqL.of (s1 _ _ hI.chs.at_)⟩,?_⟩
 have ml:(xs.map fun q=>V.ref q.1).length=xs.length:=List.length_map _
 have l40:=hI.len
 refine zg0 (K:=K) (a:=l) (xs:=xs.map fun q=>V.ref q.1) (fun i σ H'=>∃(v3 v4 v5 v6:Option V) (ys:List (Addr × Cl × Int)),σ=[some (.ref l),some (.int cell),some (.ref lo),v3,v4,v5,v6]∧Same H H'∧IsChs K H' lo ys∧(∀y,y∈ys→ChOk 1000 y.2)∧LeqC (ys.map (·.2)) (xs.map (·.2))∧(ys.map (·.2.1.n)).Sublist ((xs.take i).map (·.2.1.n)))
  ⟨_,_,_,_,[],rfl,s1,⟨h1,fun q hq=>by simp at hq⟩,fun q hq=>by simp at hq,fun k hk=>by simp at hk,List.Sublist.refl _⟩ (fun i σ H' _ ⟨_,_,_,_,_,_,s,_⟩=>SqL.of (s _ _ hI.chs.at_)) ?_ ?_
 ·rintro i x σ H2 p H3 hi ⟨v3,v4,v5,v6,ys,rfl,s2,hY,oY,lq,sub⟩ s3 n3 h3
  rw [List.getElem?_map] at hi
  cases e:xs[i]? with
  | none=>rw [e] at hi;cases hi
  | some k=>
    rw [e] at hi
    cases hi
    have il:i<xs.length:=(List.getElem?_eq_some_iff.mp e).1
    have hk:=List.mem_of_getElem? e
    have ok:=hI.ok k hk
    have s03:=s2.trans s3
    obtain ⟨pc,k1,k2⟩:=((hI.chs.ch k hk).same s03).ex
    have et:(xs.take (i+1)).map (·.2.1.n)=(xs.take i).map (·.2.1.n)++[k.2.1.n]:=by
     rw [zbp e,List.map_append]
     rfl
    refine ⟨p,_,rfl,SqT.of h3,rfl,_,_,rfl,_,_,rfl,⟨k.1,_,rfl,SqT.of k1,rfl,_,_,rfl,_,_,rfl,rfl,rfl,?_⟩⟩
    refine ⟨_,rfl,_,rfl,_,_,rfl,rfl,cell,_,rfl,fun r r0=>?_⟩
    refine ⟨_,rfl,_,_,rfl,rfl,(by show (0:Int)<_;decide),_,_,rfl,rfl,_,rfl,?_⟩
    refine ite2 (fun _=>?_) (fun _=>⟨_,_,_,_,ys,rfl,s03,hY.same s3,oY,lq,by rw [et];exact sub.trans (List.sublist_append_left _ _)⟩)
    have o0:=ok.l0
    have o1:=ok.l1
    have hY3:=hY.same s3
    refine ⟨_,rfl,.inl ⟨rfl,_,SqL.of hY3.at_⟩,_,rfl,_,rfl,_,rfl,_,rfl,_,rfl,_,_,rfl,rfl,⟨by decide,by decide⟩,_,rfl,_,_,rfl,rfl,_,_,rfl,rfl,by show 0<k.2.2+1;omega,_,_,rfl,rfl,sz 3 (by decide),fun ls H4 s4 n4 h4=>?_⟩
    have g0:=Int.emod_nonneg (r / 18) (show k.2.2+1≠0 by omega)
    have g1:=Int.emod_lt_of_pos (r / 18) (show 0<k.2.2+1 by omega)
    obtain ⟨v,ez,zv⟩:=at_3 (.int k.2.2) (.int k.2.2) (.int (k.2.2-r / 18 % (k.2.2+1))) (r:=r / 6 % 3) (by omega) (by omega)
    have zz:∃z:Int,v=.int z∧0≤z∧z≤k.2.2:=by
     rcases zv with rfl | rfl | rfl
     ·exact ⟨_,rfl,o0,Int.le_refl _⟩
     ·exact ⟨_,rfl,o0,Int.le_refl _⟩
     ·exact ⟨_,rfl,by omega,by omega⟩
    obtain ⟨z,rfl,z0,z1⟩:=zz
    have hY4:=hY3.same s4
    refine ⟨_,rfl,_,_,rfl,rfl,⟨by decide,by decide⟩,_,_,rfl,rfl,(by show (0:Int)<_;decide),ls,_,_,_,rfl,rfl,SqL.of h4,ez,sz 2 (by decide),fun pn H5 s5 n5 h5=>?_⟩
    have hY5:=hY4.same s5
    have yl:ys.length≤i:=by
     have:=sub.length_le
     rw [List.length_map,List.length_map,List.length_take] at this
     omega
    refine ⟨lo,_,_,rfl,rfl,hY5.at_,zaF (by rw [List.length_map];omega),fun H6 k6 h6=>?_⟩
    have s45:=s4.trans s5
    have hn:IsCh K H5 pn (k.2.1,z):=⟨pc,h5,k2.same s45⟩
    refine ⟨_,_,_,_,ys++[(pn,k.2.1,z)],rfl,(s03.trans s45).but n1 k6,⟨by rw [h6,List.map_append];rfl,fun y hy=>?_⟩,fun y hy=>?_,fun y hy=>?_,?_⟩
    ·rcases List.mem_append.mp hy with hy | hy
     ·exact (hY5.ch y hy).but k6 hY5.at_
     ·rw [List.mem_singleton.mp hy]
      exact hn.but k6 hY5.at_
    ·rcases List.mem_append.mp hy with hy | hy
     ·exact oY y hy
     ·rw [List.mem_singleton.mp hy]
      exact ⟨ok.ok,z0,Int.le_trans z1 o1,ok.cm⟩
    ·rw [List.map_append] at hy
     rcases List.mem_append.mp hy with hy | hy
     ·exact lq y hy
     ·rw [List.mem_singleton.mp hy]
      exact ⟨k.2.2,z1,List.mem_map.mpr ⟨k,hk,rfl⟩⟩
    ·rw [et,List.map_append]
     exact sub.append (List.Sublist.refl _)
 ·rintro σ H2 ⟨v3,v4,v5,v6,ys,rfl,s2,hY,oY,lq,sub⟩
  rw [ml,List.take_length] at sub
  have nd:(ys.map (·.2.1.n)).Nodup:=hI.nd.sublist sub
  have yl:ys.length≤40:=by
   have:=sub.length_le
   rw [List.length_map,List.length_map] at this
   omega
  refine ⟨_,rfl,cell,_,rfl,fun r r0=>⟨_,_,rfl,rfl,(by show (0:Int)<_;decide),rfl,_,rfl,?_⟩⟩
  refine ite2 (fun _=>?_) (fun _=>⟨_,rfl,q lo ys H2 s2 n1 ⟨hY,yl,oY,nd⟩ lq⟩)
  refine ⟨_,rfl,.inl ⟨rfl,_,SqL.of hY.at_⟩,lo,_,rfl,rfl,hY.at_,fun H3 k3 h3=>⟨_,rfl,q lo ys.reverse H3 (s2.but n1 k3) n1 ⟨⟨by rw [h3,List.map_reverse],fun y hy=>(hY.ch y (List.mem_reverse.mp hy)).but k3 hY.at_⟩,by rw [List.length_reverse];exact yl,fun y hy=>oY y (List.mem_reverse.mp hy),?_⟩ fun y hy=>?_⟩⟩
  ·rw [List.map_reverse]
   exact (List.reverse_perm _).nodup_iff.mpr nd
  ·rw [List.map_reverse] at hy
   exact lq y (List.mem_reverse.mp hy)
def zhu (P:Program) (w:World) (K:PySem.W.Frag) (mg:Str→Option Value) (base:Heap) (tL:Addr):Sp:=fun vs H Q _=>∃(d:Addr) (L:List (Int × Int)),vs=[.ref d]∧H tL=some (.tbl ze8 zkh)∧H d=some (.dK (dI L))∧∀g H',Same H H'→FnV P w K mg base 3 H' g (spWk L)→Q (.ref g) H'
theorem zfi:FnScope ["_law_reals"] ["_law_reals"] (zac zas):=⟨rfl,rfl,rfl,by decide +kernel,rfl,by decide +kernel,by decide +kernel⟩
theorem zfj {cv:Value} (D:DfnC K mg "_law_teller" zas ["_law_reals"] f fd cv) (SL:Site K mg base cv tL):Cal P w K mg base "_law_teller" 1 ["_law_reals"] (zhu P w K mg base tL):=by
 refine D.cal (zlQ (j:=3) (N:=["_law_number","_law_reals"]) (js:=[0]) (q:=zkh) (xl := "_law_number") (lp:=ze8) (te:=zme (tVar 1) (tVar 0)) D.F zfi SL (fun vs H Q E h=>?_) rfl (fun _ _ _ _ _=>CompScope.of rfl rfl rfl rfl rfl (by decide +kernel) rfl rfl rfl rfl) (fun _=>rfl) (fun _=>rfl) rfl rfl rfl (fun _ _ _ _ _=>rfl) (fun _ _ _ _ _ _ _ hrv=>zct (hrv.deeper _).units1 (pv 1) (pv 0) (fun _ _=>rfl)) (fun H vs Q E h=>?_))
 ·obtain ⟨d,L,rfl,_⟩:=h
  rfl
 obtain ⟨d,L,rfl,hT,hd,q⟩:=h
 refine ⟨[.ref d],rfl,hT,fun g cs H' s' ev n1 nd Fn=>?_⟩
 have s1:Same H (trc H' cs):=s'.trans (zg9 n1)
 refine q g _ s1 ((Fn.same zj2).imp fun vs H1 Q1 sm h=>?_)
 obtain ⟨n,r,rfl,hv,hq⟩:=h
 have ec:(cs.map fun p=>some p.2.2)=[some (V.ref d)]:=by
  have:=congrArg (List.map some) ev
  rw [List.map_map] at this
  exact this
 have hcel:∀p,p∈cs→H1 p.1=some (ze1 p):=fun p hp=>sm _ _ (zg8 nd hp)
 have hd1:=sm _ _ (s1 _ _ hd)
 have off:d∉cs.map (·.1):=zbn (fun p hp=>.inr ⟨_,hcel p hp⟩) (fun φ z=>by cases z) hd1
 have back:=zlA (H:=H1) nd hcel
 have g1:=zc2 (H:=drp H1 cs) (.inl (by rw [zdx off];exact hd1)) n
 rw [hv] at g1
 refine ⟨.int n,rfl,?_⟩
 rw [ec]
 refine ⟨_,rfl,_,rfl,d,_,rfl,g1,?_⟩
 show Q1 (.int r) (trc (drp H1 cs) cs)
 rw [back]
 exact hq
def zkV (K:PySem.W.Frag):Sp:=fun vs H Q _=>∃(D:Addr) (rs:List (Addr × Addr × Int × List Int)),vs=[.ref D]∧IsRun H D rs∧(∀r,r∈rs→r.2.2.2.length≤40)∧rs.length≤1481∧
 ∀d H',Same H H'→H d=none→H' d=some (.dK (dI (zb0 (zaj rs) [])))→Q (.ref d) H'
theorem zkm {rs:List (Addr × Addr × Int × List Int)} {i j:Nat} {t:Int} {ws:List Int} (h1:∀r,r∈rs→r.2.2.2.length≤40) (h2:rs.length≤1481) (h3:ws.length≤40):(dI (zcu t (ws.take j) (zb0 (zaj (rs.take i)) []))).length<sizeLine:=by
 have a:=zeb (B:=40) (zaj (rs.take i)) [] fun r hr=>by
  obtain ⟨q,hq,rfl⟩:=List.mem_map.mp hr
  exact h1 q (List.mem_of_mem_take hq)
 have b:=zea t (ws.take j) (zb0 (zaj (rs.take i)) [])
 rw [List.length_map,List.length_take] at a
 rw [List.length_take] at b
 rw [zdw]
 have z:(100000:Nat)≤sizeLine:=by decide
 rw [List.length_nil,Nat.zero_add] at a
 omega
theorem zbL:FnScope ["_law_rows","_law_lasts_here","_law_turn","_law_numbers","_law_number"] ["_law_rows"] (zac zbv):=⟨rfl,rfl,rfl,by decide +kernel,rfl,by decide +kernel,by decide +kernel⟩
theorem zf3 (D:Dfn K mg "_law_lasts" zbv ["_law_rows"] f fd) (T:Txt K mg):Cal P w K mg base "_law_lasts" 1 ["_law_rows"] (zkV K):=by
 refine D.cal (D.F.ok zbL (fun vs H Q E h=>?_) (fun cdv A outer s H vs Q E hr h=>?_))
 ·obtain ⟨D,rs,rfl,_⟩:=h
  rfl
 obtain ⟨D,rs,rfl,R,l40,l14,q⟩:=h
 refine ⟨_,(zad (zan (i:=1) zbL.nd rfl (Or.inl rfl) zg4)
  (zad (zcp PassesOwn.never rfl (za6 (pv 0)) (zdv rfl (zaT (zaO (i:=2) zbL.nd rfl (Or.inl rfl)) (zaT (zaO (i:=3) zbL.nd rfl (Or.inl rfl)) zcr))) (zaf (zcp PassesOwn.never rfl (za6 (pv 3)) (zaO (i:=4) zbL.nd rfl (Or.inl rfl)) (zaf (zid hr.units1 (pv 1) (pv 4) (pv 2) rfl)))))
  (zaf (zat (pv 1))))),?_⟩
 refine fun d H1 s1 n1 h1=>?_
 have mr:(rs.map fun r=>V.ref r.1).length=rs.length:=List.length_map _
 refine ⟨_,rfl,D,rfl,⟨_,SqL.of (s1 _ _ R.at_)⟩,?_⟩
 refine zb2 (K:=K) (a:=D) (xs:=rs.map fun r=>V.ref r.1) (fun i σ H'=>∃v2 v3 v4:Option V,σ=[some (.ref D),some (.ref d),v2,v3,v4]∧Same H H'∧H' d=some (.dK (dI (zb0 (zaj (rs.take i)) []))))
  ⟨_,_,_,rfl,s1,h1⟩ (fun i σ H' _ ⟨_,_,_,_,s,_⟩=>SqL.of (s _ _ R.at_)) ?_ ?_
 ·rintro i x σ H2 hi ⟨v2,v3,v4,rfl,s2,h2⟩
  rw [List.getElem?_map] at hi
  cases e:rs[i]? with
  | none=>rw [e] at hi;cases hi
  | some r=>
    rw [e] at hi
    cases hi
    have hr:=List.mem_of_getElem? e
    have er:zaj (rs.take (i+1))=zaj (rs.take i)++[(r.2.2.1,r.2.2.2)]:=by
     rw [zbp e]
     exact List.map_append
    have mw:(r.2.2.2.map V.int).length=r.2.2.2.length:=List.length_map _
    refine ⟨r.1,_,rfl,SqT.of (s2 _ _ (R.row r hr)),rfl,_,_,rfl,_,_,rfl,rfl,?_⟩
    refine ⟨_,rfl,r.2.1,rfl,⟨_,SqL.of (s2 _ _ (R.num r hr))⟩,?_⟩
    refine zb2 (K:=K) (a:=r.2.1) (xs:=r.2.2.2.map V.int) (fun j σ H'=>∃v4:Option V,σ=[some (.ref D),some (.ref d),some (.int r.2.2.1),some (.ref r.2.1),v4]∧Same H H'∧H' d=some (.dK (dI (zcu r.2.2.1 (r.2.2.2.take j) (zb0 (zaj (rs.take i)) [])))))
     ⟨_,rfl,s2,h2⟩ (fun j σ H' _ ⟨_,_,s,_⟩=>SqL.of (s _ _ (R.num r hr))) ?_ ?_
    ·rintro j y σ H3 hj ⟨v4,rfl,s3,h3⟩
     rw [List.getElem?_map] at hj
     cases ej:r.2.2.2[j]? with
     | none=>rw [ej] at hj;cases hj
     | some n=>
       rw [ej] at hj
       cases hj
       refine ⟨_,rfl,_,rfl,_,rfl,d,_,rfl,DPut.k (k:=.inl n) h3 (zkm l40 l14 (l40 r hr)),?_⟩
       refine ⟨_,rfl,s3.but n1 (But.upd _ _ _),?_⟩
       rw [zar,ziT,zbp ej,zeE]
    ·rintro σ H3 ⟨v4,rfl,s3,h3⟩
     rw [mw,List.take_length] at h3
     refine ⟨_,_,_,rfl,s3,?_⟩
     rw [h3,er,zeF]
 ·rintro σ H2 ⟨v2,v3,v4,rfl,s2,h2⟩
  rw [mr,List.take_length] at h2
  exact ⟨_,rfl,q d H2 s2 n1 h2⟩
def zmZ (K:PySem.W.Frag):Sp:=fun vs H Q _=>∃(D D':Addr) (rs rs':List (Addr × Addr × Int × List Int)),vs=[.ref D,.ref D']∧IsRun H D rs∧IsRun H D' rs'∧(∀r,r∈rs→r.2.2.2.length≤40)∧(∀r,r∈rs'→r.2.2.2.length≤40)∧rs.length≤1481∧rs'.length≤1481∧(∀j v,valI (zb0 (zaj rs') []) j=some v→∃u,valI (zb0 (zaj rs) []) j=some u∧v≤u)∧∀H',Same H H'→Q (.bl true) H'
theorem zbZ:FnScope ["_law_rows","_law_other_rows","_law_lasts_here","_law_found"] ["_law_rows","_law_other_rows"] (zac zaS):=⟨rfl,rfl,rfl,by decide +kernel,rfl,by decide +kernel,by decide +kernel⟩
theorem zem (D:Dfn K mg "_law_no_later" zaS ["_law_rows","_law_other_rows"] f fd) (T:Txt K mg) (zcm:Cal P w K mg base "_law_lasts" 1 ["_law_rows"] (zkV K)):Cal P w K mg base "_law_no_later" 2 ["_law_rows","_law_other_rows"] (zmZ K):=by
 refine D.cal (D.F.ok zbZ (fun vs H Q E h=>?_) (fun cdv A outer s H vs Q E hr h=>?_))
 ·obtain ⟨D,D',rs,rs',rfl,_⟩:=h
  rfl
 obtain ⟨D,D',rs,rs',rfl,R,R',l1,l2,m1,m2,no,q⟩:=h
 refine ⟨_,(zad (zan (i:=2) zbZ.nd rfl (Or.inr rfl) (zam zcm (hr.mono (by decide)) rfl (zaa (pv 0) zae)))
  (zad (zan (i:=3) zbZ.nd rfl (Or.inr rfl) (zam zcm (hr.mono (by decide)) rfl (zaa (pv 1) zae)))
  (zaf (zat (zb7 zfq (zaU zba rfl T.zgu zdY (zaa (zbS (N:=["_law_number","_law_lasts_here","_law_found"]) (js:=[2,3]) rfl (CompScope.of rfl rfl rfl rfl rfl (by decide +kernel) rfl rfl rfl rfl) (zeX (pv 3)) (fun _ _ _ _ _=>(zfG (zaw zcs (zct hr.units1 (pv 2) (pv 0) (fun _ _=>rfl)) (zdM hr.units1 (pv 1) (pv 0) (zjt zgQ zab) ⟨rfl,rfl,rfl,rfl⟩) (zay _)))) (fun _ _ _ _ _=>(pv 0))) zae)) zab (zay _)))))),?_⟩
 refine ⟨_,rfl,D,rs,rfl,R,l1,m1,fun d H1 s1 n1 h1=>?_⟩
 refine ⟨_,rfl,D',rs',rfl,R'.same s1,l2,m2,fun e H2 s2 n2 h2=>?_⟩
 have de:d≠e:=fun z=>by rw [←z,h1] at n2;cases n2
 have hL:(dI (zb0 (zaj rs') [])).length<sizeLine:=by
  have a:=zeb (B:=40) (zaj rs') [] fun r hr=>by
   obtain ⟨q,hq,rfl⟩:=List.mem_map.mp hr
   exact l2 q hq
  rw [List.length_map] at a
  rw [zdw]
  have z:(100000:Nat)≤sizeLine:=by decide
  rw [List.length_nil,Nat.zero_add] at a
  omega
 generalize zb0 (zaj rs') []=L at h2 no hL
 refine ⟨_,rfl,e,_,rfl,.inl h2,fun ob H3 k3 h3=>?_⟩
 have hd3:Rd H3 d (.dK (dI (zb0 (zaj rs) []))):=.inl (k3 _ _ de (s2 _ _ h1))
 refine zd9 (fun _=>false) (fun _=>V.non) h3 ?_ (fun i kv Hh Q' _ z=>by cases z) hL (fun D4 H4 s4 nD4 hD4=>?_)
 ·intro i kv Hh Q' hi sh q'
  unfold dI at hi
  rw [List.getElem?_map] at hi
  cases ep:L[i]? with
  | none=>rw [ep] at hi;cases hi
  | some p=>
    rw [ep] at hi
    cases hi
    have z:=q' Hh (Same.refl _)
    obtain ⟨v,hv⟩:=zeY (List.mem_of_getElem? ep)
    obtain ⟨u,hu,le⟩:=no _ _ hv
    have g1:=zc2 (.inr ⟨ob,sh _ _ h3⟩) p.1
    have g2:=zc2 (Rd.same hd3 sh) p.1
    rw [hv] at g1
    rw [hu] at g2
    refine ⟨_,rfl,_,rfl,e,_,rfl,g1,_,rfl,d,rfl,.inl ⟨_,Rd.same hd3 sh⟩,_,rfl,_,rfl,_,g2,_,_,rfl,rfl,_,rfl,?_⟩
    rw [decide_eq_false (show ¬u<v by omega)]
    exact z
 have em:(List.range (dI L).length).filter (fun _=>false)=[]:=List.filter_eq_nil_iff.mpr fun _ _ z=>by cases z
 rw [em] at hD4
 have s04:Same H H4:=((s1.trans s2).but (Same.free s1 n2) k3).trans s4
 exact ⟨D4,_,rfl,.inl (SqL.of hD4),rfl,q H4 s04⟩
def zm0 (K:PySem.W.Frag):Sp:=fun vs H Q _=>∃(l D l' D':Addr) (xs xs':List (Addr × Cl × Int)) (rs rs':List (Addr × Addr × Int × List Int)),vs=[.ref l,.ref D,.ref l',.ref D']∧ChIn K H l xs∧IsRun H D rs∧ChIn K H l' xs'∧IsRun H D' rs'∧rs.length≤1481∧(∀p,p∈lfX xs'→p.1∈(lfX xs).map (·.1))∧(∀r,r∈rs→zbH (zaj rs) (zaj rs') (lfX xs) (lfX xs') r.2.2.1=[])∧∀H',Same H H'→Q (.bl true) H'
theorem zhv {xs:List V} {a b:Option Int} {x:V} (h:x∈cutV xs a b):x∈xs:=by
 unfold cutV at h
 exact List.mem_of_mem_drop (List.mem_of_mem_take h)
theorem zbo:FnScope ["_law_chores_here","_law_rows","_law_other","_law_other_rows","_law_turn","_law_numbers","_law_here","_law_there"] ["_law_chores_here","_law_rows","_law_other","_law_other_rows"] (zac za2):=⟨rfl,rfl,rfl,by decide +kernel,rfl,by decide +kernel,by decide +kernel⟩
theorem zew (D:Dfn K mg "_law_no_more" za2 ["_law_chores_here","_law_rows","_law_other","_law_other_rows"] f fd) (T:Txt K mg) (zc6:Cal P w K mg base "left_by" 2 ["chores","rows","turn"] (zmX K)):Cal P w K mg base "_law_no_more" 3 ["_law_chores_here","_law_rows","_law_other","_law_other_rows"] (zm0 K):=by
 refine D.cal (D.F.ok zbo (fun vs H Q E h=>?_) (fun cdv A outer s H vs Q E hr h=>?_))
 ·obtain ⟨l,D,l',D',xs,xs',rs,rs',rfl,_⟩:=h
  rfl
 obtain ⟨l,D,l',D',xs,xs',rs,rs',rfl,hI,R,hI',R',l1,kin,no,q⟩:=h
 refine ⟨_,(zad (zcp PassesOwn.never rfl (za6 (zai zgo (zdN zdO (pv 1) zgf (zdW zab)) (zdN zdO (pv 1) (zdW (zjt zgQ zab)) zgf))) (zdv rfl (zaT (zaO (i:=4) zbo.nd rfl (Or.inl rfl)) (zaT (zaO (i:=5) zbo.nd rfl (Or.inl rfl)) zcr))) (zad (zan (i:=6) zbo.nd rfl (Or.inr rfl) (zam zc6 (hr.mono (by decide)) rfl (zaa (pv 0) (zaa (pv 1) (zaa (pv 4) zae)))))
  (zad (zan (i:=7) zbo.nd rfl (Or.inr rfl) (zam zc6 (hr.mono (by decide)) rfl (zaa (pv 2) (zaa (pv 3) (zaa (pv 4) zae)))))
  (zaf (zcf (zaw (zmw hr.units0) (zbS (N:=["_law_number","_law_here","_law_there"]) (js:=[6,7]) rfl (CompScope.of rfl rfl rfl rfl rfl (by decide +kernel) rfl rfl rfl rfl) (zeX (pv 7)) (fun _ _ _ _ _=>(zfG (zaw zcs (zct hr.units1 (pv 2) (pv 0) (fun _ _=>rfl)) (zct hr.units1 (pv 1) (pv 0) (fun _ _=>rfl)) (zay _)))) (fun _ _ _ _ _=>(pv 0))) (zbb zae) (zay _)) (zaf (zat zdS)) zaY)))))
  (zaf (zat zdS))),?_⟩
 have mr:(rs.map fun r=>V.ref r.1).length=rs.length:=List.length_map _
 have big:(10000:Nat)≤sizeLine:=by decide
 refine ⟨_,rfl,_,rfl,D,_,rfl,SqL.of R.at_,fun c1 H1 s1 n1 h1=>⟨_,rfl,_,rfl,_,rfl,D,_,rfl,SqL.of (s1 _ _ R.at_),fun c2 H2 s2 n2 h2=>?_⟩⟩
 have s02:=s1.trans s2
 have z1:=zcg (rs.map fun r=>V.ref r.1) none (some 40)
 have z2:=zcg (rs.map fun r=>V.ref r.1) (some (-3)) none
 refine ⟨c1,c2,_,_,rfl,rfl,SqL.of (s2 _ _ h1),SqL.of h2,by omega,fun C H3 s3 n3 h3=>⟨C,rfl,⟨_,SqL.of h3⟩,?_⟩⟩
 have s03:=s02.trans s3
 generalize eZ:cutV (rs.map fun r=>V.ref r.1) none (some 40)++cutV (rs.map fun r=>V.ref r.1) (some (-3)) none=Z at h3
 have mem:∀x,x∈Z→∃r,r∈rs∧x=V.ref r.1:=fun x hx=>by
  rw [←eZ] at hx
  have:x∈rs.map fun r=>V.ref r.1:=by
   rcases List.mem_append.mp hx with hx | hx
   ·exact zhv hx
   ·exact zhv hx
  obtain ⟨r,hr,e⟩:=List.mem_map.mp this
  exact ⟨r,hr,e.symm⟩
 refine zb2 (K:=K) (a:=C) (xs:=Z) (fun i σ H'=>∃v4 v5 v6 v7:Option V,σ=[some (.ref l),some (.ref D),some (.ref l'),some (.ref D'),v4,v5,v6,v7]∧Same H H'∧H' C=some (.lst Z)) ⟨_,_,_,_,rfl,s03,h3⟩ (fun i σ H' _ ⟨_,_,_,_,_,_,hC⟩=>SqL.of hC) ?_ ?_
 ·rintro i x σ H4 hi ⟨v4,v5,v6,v7,rfl,s4,hC⟩
  obtain ⟨r,hr,rfl⟩:=mem x (List.mem_of_getElem? hi)
  refine ⟨r.1,_,rfl,SqT.of (s4 _ _ (R.row r hr)),rfl,_,_,rfl,_,_,rfl,rfl,?_⟩
  refine ⟨_,rfl,_,rfl,_,rfl,l,D,xs,rs,r.2.2.1,rfl,hI.same s4,R.same s4,fun d H5 s5 n5 h5=>?_⟩
  have s05:=s4.trans s5
  refine ⟨_,rfl,_,rfl,_,rfl,l',D',xs',rs',r.2.2.1,rfl,hI'.same s05,R'.same s05,fun e H6 s6 n6 h6=>?_⟩
  have s46:=s5.trans s6
  have de:d≠e:=fun z=>by rw [←z,h5] at n6;cases n6
  have ew:zek (zaH r.2.2.1 (zaj rs) (lfX xs)) (zaH r.2.2.1 (zaj rs') (lfX xs'))=[]:=no r hr
  have kin':∀p,p∈zaH r.2.2.1 (zaj rs') (lfX xs')→p.1∈(zaH r.2.2.1 (zaj rs) (lfX xs)).map (·.1):=fun p hp=>by
   rw [zbk]
   have:p.1∈(zaH r.2.2.1 (zaj rs') (lfX xs')).map (·.1):=List.mem_map.mpr ⟨p,hp,rfl⟩
   rw [zbk] at this
   obtain ⟨p',hp',e'⟩:=List.mem_map.mp this
   rw [←e']
   exact kin p' hp'
  have ndM:((zaH r.2.2.1 (zaj rs') (lfX xs')).map (·.1)).Nodup:=by rw [zbk];exact zfY hI'
  have lM:(zaH r.2.2.1 (zaj rs') (lfX xs')).length≤40:=by
   have:=congrArg List.length (zbk r.2.2.1 (zaj rs') (lfX xs'))
   rw [List.length_map,List.length_map] at this
   rw [this]
   unfold lfX
   rw [List.length_map]
   exact hI'.len
  generalize zaH r.2.2.1 (zaj rs) (lfX xs)=L at h5 ew kin'
  generalize zaH r.2.2.1 (zaj rs') (lfX xs')=M at h6 ew kin' ndM lM
  refine ⟨_,rfl,e,_,rfl,.inl h6,fun ob H7 k7 h7=>?_⟩
  have hd7:Rd H7 d (.dK (dI L)):=.inl (k7 _ _ de (s6 _ _ h5))
  have he7:Rd H7 e (.dK (dI M)):=.inr ⟨ob,h7⟩
  refine zd9 (fun _=>false) (fun _=>V.non) h7 ?_ (fun i kv Hh Q' _ z=>by cases z) (zaF (by rw [zdw];omega)) (fun W H8 s8 nW hW=>?_)
  ·intro i kv Hh Q' hi sh q'
   unfold dI at hi
   rw [List.getElem?_map] at hi
   cases e1:M[i]? with
   | none=>rw [e1] at hi;cases hi
   | some p=>
     rw [e1] at hi
     cases hi
     have z:=q' Hh (Same.refl _)
     have hp:=List.mem_of_getElem? e1
     have g:=zc2 (Rd.same he7 sh) p.1
     rw [zgy ndM hp] at g
     have g2:=zc2 (Rd.same hd7 sh) p.1
     obtain ⟨p2,hp2,ep2⟩:=List.mem_map.mp (kin' p hp)
     obtain ⟨v,hv⟩:=zeY hp2
     rw [ep2] at hv
     rw [hv] at g2
     refine ⟨_,rfl,_,rfl,e,_,rfl,g,_,rfl,_,rfl,d,_,rfl,g2,_,_,rfl,rfl,_,rfl,?_⟩
     have nw:¬v<p.2:=fun lt=>by
      unfold zek at ew
      rw [List.map_eq_nil_iff,List.filter_eq_nil_iff] at ew
      exact ew p hp (decide_eq_true (by rw [hv];exact lt))
     rw [decide_eq_false nw]
     exact z
  have em:(List.range (dI M).length).filter (fun _=>false)=[]:=List.filter_eq_nil_iff.mpr fun _ _ z=>by cases z
  rw [em] at hW
  have s48:Same H4 H8:=(s46.but (Same.free s5 n6) k7).trans s8
  refine ⟨sz 0 (by decide),fun z9 H9 s9 n9 h9=>⟨W,z9,_,rfl,rfl,SqL.of (s9 _ _ hW),SqL.of h9,_,rfl,iteF ?_⟩⟩
  have s49:=s48.trans s9
  exact ⟨_,_,_,_,rfl,s4.trans s49,s49 _ _ hC⟩
 ·rintro σ H4 ⟨v4,v5,v6,v7,rfl,s4,_⟩
  exact q H4 s4
theorem zm1 {H H2:Hp} {D:Addr} {bs:List (Addr × List V)} {ks:List (Addr × Cl × Int)} (f:Addr × Cl × Int→Int) (eb:bs.map (·.2)=ks.map fun k=>[V.ref (kcOf H k.1),V.int (f k)]) (hb:∀b,b∈bs→H2 b.1=some (.tup b.2)) (hD:H2 D=some (.lst (bs.map fun b=>V.ref b.1))) (hc:∀k,k∈ks→IsCl K H2 (kcOf H k.1) k.2.1):
  ∃ys:List (Addr × Cl × Int),IsChs K H2 D ys∧ys.map (·.2)=ks.map fun k=>(k.2.1,f k):=by
 have lb:bs.length=ks.length:=by
  have:=congrArg List.length eb
  rw [List.length_map,List.length_map] at this
  exact this
 refine ⟨List.zipWith (fun b k=>(b.1,k.2.1,f k)) bs ks,⟨?_,fun y hy=>?_⟩,?_⟩
 ·rw [hD,List.map_zipWith]
  congr 2
  refine List.ext_getElem (by simp [lb]) fun i h1 h2=>?_
  simp
 ·obtain ⟨i,hi,ei⟩:=List.getElem_of_mem hy
  have hi2:i<bs.length∧i<ks.length:=by
   rw [List.length_zipWith] at hi
   omega
  rw [List.getElem_zipWith] at ei
  have e:=congrArg (fun l:List (List V)=>l[i]?) eb
  simp [hi2.1,hi2.2] at e
  rw [←ei]
  refine ⟨kcOf H ks[i].1,?_,hc _ (List.getElem_mem hi2.2)⟩
  show H2 bs[i].1=_
  rw [hb _ (List.getElem_mem hi2.1),e]
 ·rw [List.map_zipWith]
  refine List.ext_getElem (by simp [lb]) fun i h1 h2=>?_
  simp
theorem zbM:FnScope ["_law_script","_law_begin_here","_law_chores_here","_law_hands","_law_rows","_law_cell_here","_law_other","_law_more","_law_reals","_law_k","_law_claim","_law_left","_law_number","_law_other_rows","_law_truly","_law_some","_law_some_rows"] ["_law_script"] (zac zes):=⟨rfl,rfl,rfl,by decide +kernel,rfl,by decide +kernel,by decide +kernel⟩
theorem zm2 (D:Dfn K mg "law" zes ["_law_script"] f fd) (T:Txt K mg) (zcn:Cal P w K mg base "first_worse" 3 ["chores","rows","other","other_rows"] (zhq K)) (zfk:Cal P w K mg base "eases" 4 ["chores","hands","other","other_hands"] (zji K)) (zc7:CalD P w K mg base "run_of" 10 ["chores","hands","begin","real"] (zmV P w K mg base tT)) (za5:Cal P w K mg base "_law_cell" 1 ["_law_script","_law_k"] (zhi K)) (zbh:Cal P w K mg base "_law_mix" 1 ["_law_cell_here","_law_k"] zkg) (zav:Cal P w K mg base "_law_draw" 2 ["_law_cell_here","_law_k"] zfT) (zcW:Cal P w K mg base "_law_begin" 3 ["_law_script"] (zhj K)) (zcC:Cal P w K mg base "_law_chores" 4 ["_law_script","_law_start","_law_begin_here"] (zhk K)) (zcD:Cal P w K mg base "_law_easier" 2 ["_law_chores_here","_law_cell_here"] (zht K)) (zcE:Cal P w K mg base "_law_teller" 1 ["_law_reals"] (zhu P w K mg base tL)) (zcb:Cal P w K mg base "_law_no_later" 2 ["_law_rows","_law_other_rows"] (zmZ K)) (zco:Cal P w K mg base "_law_no_more" 3 ["_law_chores_here","_law_rows","_law_other","_law_other_rows"] (zm0 K)):FnOk P w K mg base CX0 11 f fd ["_law_script"] (zij K tT tL):=by
 refine D.F.ok zbM (fun vs H Q E h=>?_) (fun cdv A outer s H vs Q E hr h=>?_)
 ·obtain ⟨a,ns,rfl,_⟩:=h
  rfl
 obtain ⟨a,ns,rfl,hS,h63,hT,hTL,q⟩:=h
 refine ⟨_,(zad (zan (i:=1) zbM.nd rfl (Or.inl rfl) (zam zcW (hr.mono (by decide)) rfl (zaa (pv 0) zae)))
  (zad (zan (i:=2) zbM.nd rfl (Or.inl rfl) (zam zcC (hr.mono (by decide)) rfl (zaa (pv 0) (zaa zab (zaa (pv 1) zae)))))
  (zad (zan (i:=3) zbM.nd rfl (Or.inl rfl) (zai za8 (zai za8 zab (zai zaB (zam zav (hr.mono (by decide)) rfl (zaa (zam za5 (hr.mono (by decide)) rfl (zaa (pv 0) (zaa zab zae))) (zaa zab zae))) zab)) (zai zbQ zab (zbK zcX rfl T.zi6 zfC (zaa (zb7 zcs (zaU zba rfl T.zgu zdY (zaa (pv 2) zae)) zab (zay _)) zae)))))
  (zad (zan (i:=4) zbM.nd rfl (Or.inl rfl) (ziP zc7 (hr.mono (by decide)) rfl (zaa (pv 2) (zaa (pv 3) (zaa (pv 1) zae)))))
  (zad (zcp PassesOwn.never rfl (za6 (zai zgo (zdN zdO (pv 0) (zdW zab) (zdW (zau zch (zbb (zaa zab (zaa zab zae))) (zbK zcX rfl T.zi6 zfC (zaa (zmO (zb7 zcs (zaU zba rfl T.zgu zdY (zaa (pv 4) zae)) zab (zay _)) (zgN (zb7 zcs (zaU zba rfl T.zgu zdY (zaa (pv 2) zae)) zab (zay _)))) zae)) (fun _ _=>rfl)))) (zbb (zaa zab zae)))) (zaO (i:=5) zbM.nd rfl (Or.inl rfl)) (zad (zan (i:=6) zbM.nd rfl (Or.inl rfl) (zam zcD (hr.mono (by decide)) rfl (zaa (pv 2) (zaa (pv 5) zae))))
  (zad (zan (i:=7) zbM.nd rfl (Or.inl rfl) (zau zch (zbb (pai (zal zab (zal zab (zal zab (zal zab zb8)))))) (zai zaB (zam zbh (hr.mono (by decide)) rfl (zaa (pv 5) (zaa zab zae))) zab) (fun _ _=>rfl)))
  (zad (zcf (zaw zfD (zam zfk (hr.mono (by decide)) rfl (pai (zal (pv 2) (zal (pv 3) (zal (pv 6) (zal (zai za8 (pv 3) (pv 7)) zb8)))))) zdS (zay _)) (zaf (zat zdS)) zaY)
  (zad (zan (i:=8) zbM.nd rfl (Or.inr rfl) zg4)
  (zad (zcp PassesOwn.never rfl (ziq rfl T.zeg (zaa (pv 6) zae)) (zdv rfl (zaT (zaO (i:=9) zbM.nd rfl (Or.inl rfl)) (zaT (zdv rfl (zaT (zaO (i:=10) zbM.nd rfl (Or.inl rfl)) (zaT (zaO (i:=11) zbM.nd rfl (Or.inl rfl)) zcr))) zcr))) (zad (zan (i:=12) zbM.nd rfl (Or.inl rfl) (zam zbh (hr.mono (by decide)) rfl (zaa (pv 5) (zaa (zai za8 zab (pv 9)) zae))))
  (zaf (zid hr.units1 (pv 8) (zau zao (pv 10) zab (fun _ _=>rfl)) (zau zch (zbb (pai (zal (pv 11) (zal (pv 11) (zal (zai zaB (zai za7 (pv 12) zab) zab) (zal (zai zaB (zai za7 (pv 12) zab) (zai za8 (pv 11) zab)) zb8)))))) (zai zaB (pv 12) zab) (fun _ _=>rfl)) rfl))))
  (zad (zan (i:=13) zbM.nd rfl (Or.inl rfl) (zlt zc7 (hr.mono (by decide)) rfl (pai (zal (pv 6) (zal (zai za8 (pv 3) (pv 7)) (zal (pv 1) (zal (zam zcE (hr.mono (by decide)) rfl (zaa (pv 8) zae)) zb8)))))))
  (zad (zjO (i:=14) (nk:=2) (g:=(gTup K 2 (zkZ (zeQ 0) (zkZ (zeQ 1) gNil)))) (N:=["_law_claim","_law_left","_law_reals"]) (js:=[8]) zbM.nd rfl rfl rfl (CompScopeN.of rfl rfl rfl rfl rfl (by decide +kernel) rfl rfl rfl) (fun _ _ _ _ _ hn=>(zdv rfl (zaT (hn 0 _ _ rfl (by decide)) (zaT (hn 1 _ _ rfl (by decide)) zcr)))) (za6 (pv 6)) (fun _ _ _ _ _=>zc1) (fun _ _ _ _ _=>(zaZ (zaa (pv 0) (zaa (zaU (zfs rfl) rfl T.zlR zii (zaa (pv 1) (zaa (zct hr.units1 (pv 2) (zau (r:=rIxT K) zao (pv 0) zab (fun _ _=>rfl)) (fun _ _=>rfl)) zae))) zae)))))
  (zad (zlB PassesOwn.never rfl (zj1 (zbb (zaa (zaZ (zaa (pv 6) (zaa (ziP zc7 (hr.mono (by decide)) rfl (zaa (pv 6) (zaa (zai za8 (pv 3) (pv 7)) (zaa (pv 1) zae)))) zae))) (zaa (zaZ (zaa (pv 14) (zaa (pv 13) zae))) zae)))) (zdv rfl (zaT (zaO (i:=15) zbM.nd rfl (Or.inl rfl)) (zaT (zaO (i:=16) zbM.nd rfl (Or.inl rfl)) zcr))) (zad (zcf (PW.pt (zl1 (zaw zk4 (zam zcn (hr.mono (by decide)) rfl (pai (zal (pv 2) (zal (pv 4) (zal (pv 15) (zal (pv 16) zb8)))))) zhX (zay _)) (zkp (zgM (zfo (zam zcb (hr.mono (by decide)) rfl (zaa (pv 4) (zaa (pv 16) zae)))))))) (zaf (zat zdS)) zaY)
  (zaf (zcf (zgM (zfo (zam zco (hr.mono (by decide)) rfl (pai (zal (pv 2) (zal (pv 4) (zal (pv 15) (zal (pv 16) zb8)))))))) (zaf (zat zdS)) zaY))))
  (zaf (zcf (zaw zfD (zam zfk (hr.mono (by decide)) rfl (pai (zal (pv 2) (zal (pv 3) (zal (pv 14) (zal (zai za8 (pv 3) (pv 7)) zb8)))))) zdS (zay _)) (zaf (zat zdS)) zaY)))))))))))
  (zaf (zat zdS))))))),?_⟩
 refine ⟨_,rfl,a,ns,rfl,hS,fun b H1 s1 b0 b1=>?_⟩
 refine ⟨_,rfl,_,rfl,a,ns,_,b,rfl,s1.seq hS,by decide,b0,b1,fun l xs H2 s2 nl hx x40 ox nd=>?_⟩
 have s02:=s1.trans s2
 have mx:(xs.map fun q=>V.ref q.1).length=xs.length:=List.length_map _
 have hI2:ChIn K H2 l xs:=⟨hx,x40,ox,nd⟩
 refine ⟨_,rfl,a,ns,_,rfl,s02.seq hS,by decide,fun cell=>⟨cell,_,rfl,by decide,fun r1 r10=>⟨_,_,rfl,rfl,(by show (0:Int)<_;decide),_,_,rfl,rfl,_,rfl,l,_,rfl,.inl (SqL.of hx.at_),_,_,rfl,rfl,.inr ⟨_,rfl,_,_,rfl,rfl,.inl ⟨by decide,by decide⟩,_,_,rfl,rfl,?_⟩⟩⟩⟩
 have hh:∃hv:Int,0<hv∧hv=1+r1 % 3+3*(if decide ((8:Int)<((xs.map fun q=>V.ref q.1).length:Int))=true then 1 else 0):=⟨_,by split<;>omega,rfl⟩
 obtain ⟨hv,h0,eh⟩:=hh
 dsimp only
 rw [←eh]
 clear eh
 refine ⟨_,rfl,_,rfl,_,rfl,l,xs,hv,b,.non,_,rfl,hI2,h0,b0,by omega,s02 _ _ hT,.inl ⟨rfl,rfl⟩,fun D H3 rs s3 nD R l40 l14=>?_⟩
 have s03:=s02.trans s3
 have hI3:=hI2.same s3
 have mr:(rs.map fun r=>V.ref r.1).length=rs.length:=List.length_map _
 refine ⟨_,rfl,_,rfl,sz 2 (by decide),fun l4 H4 s4 n4 h4=>?_⟩
 have s04:=s03.trans s4
 have R4:=R.run.same s4
 refine ⟨_,_,⟨_,rfl,D,_,rfl,.inl (SqL.of R4.at_),_,_,rfl,rfl,rfl,rfl⟩,(fun _=>⟨_,rfl,l,_,rfl,.inl (SqL.of (hI3.same s4).chs.at_),_,_,rfl,rfl,rfl,rfl⟩),.inr ⟨_,rfl,?_⟩⟩
 have hu:∀k:Bool,∃u:Int,atI [V.int 10,V.int 4] (if k=true then 1 else 0)=some (.int u):=fun k=>by
  cases k with
  | false=>exact ⟨_,rfl⟩
  | true=>exact ⟨_,rfl⟩
 obtain ⟨u,eu⟩:=hu _
 refine ⟨l4,_,_,_,rfl,rfl,SqL.of h4,eu,?_⟩
 clear eu hu
 refine ⟨_,rfl,a,_,rfl,s04.seq hS,fun l5 H5 s5 n5 h5=>⟨sz 1 (by decide),fun l6 H6 s6 n6 h6=>?_⟩⟩
 obtain ⟨ms,em⟩:=zjP ns (some 2) (some u)
 have lm:ms.length≤63:=by
  have:=zcg (ns.map V.int) (some 2) (some u)
  rw [em,List.length_map,List.length_map] at this
  omega
 rw [em] at h5
 refine ⟨l5,l6,_,_,rfl,rfl,SqL.of (s6 _ _ h5),SqL.of h6,?_,fun l7 H7 s7 n7 h7=>?_⟩
 ·have z:(1000:Nat)≤sizeLine:=by decide
  rw [List.length_map]
  have z2:[V.int 1].length=1:=rfl
  omega
 have s37:=s4.trans (s5.trans (s6.trans s7))
 have s07:=s03.trans s37
 have hI7:=hI3.same s37
 have R7:=R.run.same s37
 have h7':H7 l7=some (.lst ((ms++[1]).map V.int)):=by
  rw [h7,List.map_append]
  rfl
 refine ⟨l7,rfl,⟨_,SqL.of h7'⟩,?_⟩
 refine zb2 (K:=K) (a:=l7) (xs:=(ms++[1]).map V.int) (fun _ σ H8=>∃v5 v6 v7 v8 v9 v10 v11 v12 v13 v14 v15 v16:Option V,σ=[some (.ref a),some (.int b),some (.ref l),some (.int hv),some (.ref D),v5,v6,v7,v8,v9,v10,v11,v12,v13,v14,v15,v16]∧Same H7 H8)
  ⟨_,_,_,_,_,_,_,_,_,_,_,_,rfl,Same.refl _⟩ (fun i σ H8 _ ⟨_,_,_,_,_,_,_,_,_,_,_,_,_,s8⟩=>SqL.of (s8 _ _ h7')) ?_ ?_
 ·rintro i y σ H8 hi ⟨v5,v6,v7,v8,v9,v10,v11,v12,v13,v14,v15,v16,rfl,s8⟩
  obtain ⟨ce,_,rfl⟩:=List.mem_map.mp (List.mem_of_getElem? hi)
  have hI8:=hI7.same s8
  refine ⟨_,rfl,_,rfl,l,ce,xs,rfl,hI8,fun m ys H9 s9 nm hY lq=>?_⟩
  refine ⟨sz 4 (by decide),fun l10 H10 s10 n10 h10=>⟨_,rfl,ce,_,rfl,fun r2 r20=>⟨_,_,rfl,rfl,(by show (0:Int)<_;decide),?_⟩⟩⟩
  have hm:∃more:Int,atI [V.int 0,V.int 0,V.int 1,V.int 6] (r2 % 4)=some (.int more)∧0≤more:=by
   obtain ⟨v,ev,hv⟩:=at4 0 0 1 6 r2
   exact ⟨v,ev,by omega⟩
  obtain ⟨more,emo,mo0⟩:=hm
  refine ⟨l10,_,_,_,rfl,rfl,SqL.of h10,emo,?_⟩
  clear emo
  have s810:=s9.trans s10
  have hY10:=hY.same s10
  have hI10:=hI8.same s810
  have okx:∀q,q∈xs→q.2.1.Ok:=fun q hq=>(ox q hq).ok
  have oky:∀q,q∈ys→q.2.1.Ok:=fun q hq=>(hY.ok q hq).ok
  refine ⟨_,rfl,_,rfl,_,rfl,_,rfl,_,rfl,_,_,rfl,rfl,l,m,xs,ys,hv,hv+more,rfl,hI10.chs,x40,okx,hY10.chs,hY.len,oky,fun H11 s11=>?_⟩
  rw [zjl (by omega) lq]
  refine ⟨_,_,rfl,rfl,_,rfl,iteF ?_⟩
  have s811:=s810.trans s11
  refine fun d H12 s12 nd12 hd12=>?_
  have hY12:=hY10.same (s11.trans s12)
  have my:(ys.map fun q=>V.ref q.1).length=ys.length:=List.length_map _
  have yl:=hY.len
  have s812:=s811.trans s12
  refine ⟨_,rfl,m,rfl,⟨_,SqL.of hY12.chs.at_⟩,?_⟩
  refine zg0 (K:=K) (a:=m) (xs:=ys.map fun q=>V.ref q.1) (fun i σ H'=>∃(v9 v10 v11 v12:Option V) (L:List (Int × Int)),σ=[some (.ref a),some (.int b),some (.ref l),some (.int hv),some (.ref D),some (.int ce),some (.ref m),some (.int more),some (.ref d),v9,v10,v11,v12,v13,v14,v15,v16]∧Same H11 H'∧H' d=some (.dK (dI L))∧L.map (·.1)=(ys.take i).map (·.2.1.n)∧∀p,p∈L→0≤p.2)
   ⟨_,_,_,_,[],rfl,s12,hd12,rfl,fun p hp=>by simp at hp⟩ (fun i σ H' _ ⟨_,_,_,_,_,_,s,_⟩=>SqL.of (s _ _ (s11 _ _ hY10.chs.at_))) ?_ ?_
  ·rintro i x σ H13 p H14 hi ⟨v9,v10,v11,v12,L,rfl,s13,hd13,kL,pL⟩ s14 n14 h14
   rw [List.getElem?_map] at hi
   cases e:ys[i]? with
   | none=>rw [e] at hi;cases hi
   | some k=>
     rw [e] at hi
     cases hi
     have hk:=List.mem_of_getElem? e
     have ok:=hY.ok k hk
     have s1114:=s13.trans s14
     have kch:=(hY10.chs.ch k hk).same (s11.trans s1114)
     obtain ⟨k1,k2⟩:=kch.kc
     obtain ⟨_,_,c1,_,_⟩:=id k2.ex
     have il:i<ys.length:=(List.getElem?_eq_some_iff.mp e).1
     have o0:=ok.l0
     refine ⟨p,_,rfl,SqT.of h14,rfl,_,_,rfl,_,_,rfl,⟨k.1,_,rfl,SqT.of k1,rfl,_,_,rfl,_,_,rfl,rfl,rfl,?_⟩⟩
     refine ⟨_,rfl,_,rfl,_,_,rfl,rfl,ce,_,rfl,fun r3 r30=>?_⟩
     refine ⟨_,rfl,_,rfl,_,rfl,_,_,rfl,rfl,⟨by decide,by decide⟩,_,_,rfl,rfl,(by show (0:Int)<_;decide),_,rfl,_,_,rfl,rfl,⟨by decide,by decide⟩,_,rfl,_,_,rfl,rfl,_,_,rfl,rfl,by show 0<k.2.2+1;omega,sz 4 (by decide),fun ls H15 s15 n15 h15=>?_⟩
     have g0:=Int.emod_nonneg (r3 / 4) (show k.2.2+1≠0 by omega)
     have hz:∃z:Int,atI [V.int k.2.2,V.int k.2.2,V.int (r3 / 4 % 13),V.int (r3 / 4 % (k.2.2+1))] (r3 % 4)=some (.int z)∧0≤z:=by
      obtain ⟨v,ev,hv⟩:=at4 k.2.2 k.2.2 (r3 / 4 % 13) (r3 / 4 % (k.2.2+1)) r3
      exact ⟨v,ev,by omega⟩
     obtain ⟨z,ez,z0⟩:=hz
     refine ⟨_,rfl,_,_,rfl,rfl,(by show (0:Int)<_;decide),ls,_,_,_,rfl,rfl,SqL.of h15,ez,?_⟩
     have hd15:=s15 _ _ (s14 _ _ hd13)
     have lL:L.length≤40:=by
      have:=congrArg List.length kL
      rw [List.length_map,List.length_map,List.length_take] at this
      omega
     refine ⟨_,rfl,_,rfl,kcOf H14 k.1,_,_,_,rfl,rfl,SqT.of (s15 _ _ c1),rfl,d,_,rfl,DPut.k (k:=.inl k.2.1.n) hd15 (zaF (by rw [zdw];omega)),?_⟩
     have no:k.2.1.n∉L.map (·.1):=fun z=>by
      rw [kL] at z
      obtain ⟨j,hj,ej⟩:=List.mem_map.mp z
      have ej:j.2.1.n=k.2.1.n:=ej
      obtain ⟨a',ha,ea⟩:=List.getElem_of_mem hj
      rw [List.length_take] at ha
      rw [List.getElem_take] at ea
      have n1:(ys.map (·.2.1.n))[a']?=some k.2.1.n:=by rw [List.getElem?_map,List.getElem?_eq_getElem (by omega),ea,←ej];rfl
      have n2:(ys.map (·.2.1.n))[i]?=some k.2.1.n:=by rw [List.getElem?_map,e];rfl
      have:=zjc hY.nd n1 n2
      omega
     refine ⟨_,_,_,_,L++[(k.2.1.n,z)],rfl,(s1114.trans s15).but nd12 (But.upd _ _ _),?_,?_,fun p hp=>?_⟩
     ·rw [zar,ziT,zj0 no]
     ·rw [List.map_append,kL,zbp e,List.map_append]
      rfl
     ·rcases List.mem_append.mp hp with hp | hp
      ·exact pL p hp
      ·rw [List.mem_singleton.mp hp]
       exact z0
  ·rintro σ H13 ⟨v9,v10,v11,v12,L,rfl,s13,hd13,kL,pL⟩
   rw [my,List.take_length] at kL
   have kn:∀k,k∈ys→zlT L k.2.1.n:=fun k hk=>by
    have:k.2.1.n∈L.map (·.1):=by
     rw [kL]
     exact List.mem_map.mpr ⟨k,hk,rfl⟩
    obtain ⟨p,hp,ep⟩:=List.mem_map.mp this
    obtain ⟨v,hv⟩:=zeY hp
    obtain ⟨p',hp',ep'⟩:=zf0 hv
    rw [ep] at hv
    exact ⟨v,hv,by rw [←ep'];exact pL p' hp'⟩
   have s813:=s811.trans s13
   have s013:=s07.trans (s8.trans s813)
   have hY13:=hY10.same (s11.trans s13)
   have hh0:0<hv+more:=by omega
   have hhn:hv.toNat≤(hv+more).toNat:=by omega
   refine ⟨_,rfl,_,rfl,_,rfl,_,_,rfl,rfl,_,rfl,_,rfl,d,L,rfl,s013 _ _ hTL,hd13,fun g H14 s14 Fg=>?_⟩
   have hY14:=hY13.same s14
   refine ⟨m,ys,hv+more,b,.ref g,_,rfl,hY14,hh0,b0,by omega,s14 _ _ (s013 _ _ hT),.inr ⟨g,L,rfl,Fg,kn,rfl⟩,fun D2 H15 rs2 s15 nD2 R2 l402 l142=>?_⟩
   have s1315:=s14.trans s15
   have hY15:=hY13.same s1315
   have hd15:=s1315 _ _ hd13
   refine ⟨_,rfl,m,rfl,⟨_,SqL.of hY15.chs.at_⟩,?_⟩
   refine zhE (xs:=ys.map fun q=>V.ref q.1) (sts 2 ys fun k=>[.ref (kcOf H15 k.1),.int k.2.2]) (tak ys fun _=>true) (itl ys fun k=>[V.ref (kcOf H15 k.1),V.int (tkN L k.2)]) (SqL.of hY15.chs.at_) (zlp fun _=>rfl) ?_ ?_ ?_ (zaF (by rw [my];omega)) (fun lz H16 bs s16 nlz hlz eb hb=>?_)
   ·intro j x Hh os R' hxj sh ol r'
    obtain ⟨o1,o2,rfl⟩:=len2 ol
    rw [List.getElem?_map] at hxj
    cases ek:ys[j]? with
    | none=>rw [ek] at hxj;cases hxj
    | some k=>
      rw [ek] at hxj
      cases hxj
      unfold sts at r'
      rw [ek] at r'
      obtain ⟨k1,k2⟩:=(hY15.chs.ch k (List.mem_of_getElem? ek)).kc
      exact ⟨k.1,_,rfl,SqT.of (sh _ _ k1),rfl,_,_,rfl,_,_,rfl,rfl,r'⟩
   ·intro j x Hh Q' hxj sh q'
    have z:=q' Hh (Same.refl _)
    unfold tak at z
    rw [List.getElem?_map] at hxj
    cases ek:ys[j]? with
    | none=>rw [ek] at hxj;cases hxj
    | some k=>
      rw [ek] at z
      exact z
   ·intro j x Hh Q' hxj _ sh q'
    rw [List.getElem?_map] at hxj
    cases ek:ys[j]? with
    | none=>rw [ek] at hxj;cases hxj
    | some k=>
      rw [ek] at hxj
      cases hxj
      have hk:=List.mem_of_getElem? ek
      obtain ⟨k1,k2⟩:=(hY15.chs.ch k hk).kc
      obtain ⟨_,_,c1,_,_⟩:=id k2.ex
      obtain ⟨r,hr',r0⟩:=kn k hk
      have g:=zc2 (.inl (sh _ _ hd15)) k.2.1.n
      rw [hr'] at g
      have et:(if r<k.2.2 then r else k.2.2)=tkN L k.2:=by
       unfold tkN
       rw [hr']
       show _=if k.2.2<r then k.2.2 else r
       split<;>split<;>omega
      unfold sts
      unfold itl at q'
      rw [ek] at q' ⊢
      refine ⟨_,rfl,_,rfl,_,rfl,_,rfl,kcOf H15 k.1,_,_,_,rfl,rfl,SqT.of (sh _ _ c1),rfl,d,_,rfl,g,_,_,rfl,?_⟩
      rw [et]
      exact ⟨sz 2 (by decide),fun p Hb sb nb hb'=>q' p Hb sb hb'⟩
   rw [my,zde,zdQ] at eb
   obtain ⟨zs,hZ0,ez⟩:=zm1 (K:=K) (fun k=>tkN L k.2) eb hb hlz fun k hk=>((hY15.chs.ch k hk).kc.2).same s16
   have ez':zs.map (·.2)=takC L (ys.map (·.2)):=by
    rw [ez]
    unfold takC
    rw [List.map_map]
    rfl
   have hZ:ChIn K H16 lz zs:=by
    have nz:zs.map (·.2.1.n)=ys.map (·.2.1.n):=by
     have:=congrArg (List.map fun x:Cl × Int=>x.1.n) ez
     rw [List.map_map,List.map_map] at this
     exact this
    refine ⟨hZ0,?_,fun y hy=>?_,by rw [nz];exact hY.nd⟩
    ·have:=congrArg List.length nz
     rw [List.length_map,List.length_map] at this
     omega
    ·have:y.2∈zs.map (·.2):=List.mem_map.mpr ⟨y,hy,rfl⟩
     rw [ez] at this
     obtain ⟨k,hk,e⟩:=List.mem_map.mp this
     have o:=hY.ok k hk
     obtain ⟨r,hr',r0⟩:=kn k hk
     have t0:0≤tkN L k.2∧tkN L k.2≤k.2.2:=by
      have:=o.l0
      unfold tkN
      rw [hr']
      show 0≤(if k.2.2<r then k.2.2 else r)∧(if k.2.2<r then k.2.2 else r)≤k.2.2
      split<;>omega
     rw [←e]
     exact ⟨o.ok,t0.1,Int.le_trans t0.2 o.l1,o.cm⟩
   have lqz:LeqC (zs.map (·.2)) (xs.map (·.2)):=by
    rw [ez']
    exact zmY zkl lq
   rw [←ez'] at R2
   have hY16:=hY15.same s16
   have s016:=s013.trans (s1315.trans s16)
   refine ⟨_,rfl,_,rfl,_,rfl,_,rfl,_,_,rfl,rfl,_,rfl,m,ys,hv+more,b,.non,_,rfl,hY16,hh0,b0,by omega,s016 _ _ hT,.inl ⟨rfl,rfl⟩,fun D3 H17 rs3 s17 nD3 R3 l403 l143=>⟨sz 2 (by decide),fun t1 H18 s18 n18 h18=>⟨_,rfl,_,rfl,sz 2 (by decide),fun t2 H19 s19 n19 h19=>⟨sz 2 (by decide),fun l20 H20 s20 n20 h20=>⟨l20,rfl,⟨_,SqL.of h20⟩,?_⟩⟩⟩⟩⟩
   have s1720:=s18.trans (s19.trans s20)
   have s1620:=s17.trans s1720
   have s820:=s813.trans (s1315.trans (s16.trans s1620))
   have pk:∀x,x∈[V.ref t1,V.ref t2]→∃(t l' D':Addr) (zz:List (Addr × Cl × Int)) (rr:List (Addr × Addr × Int × List Int)) (Ha Hb:Hp),x=.ref t∧H20 t=some (.tup [.ref l',.ref D'])∧ChIn K H20 l' zz∧LeqC (zz.map (·.2)) (xs.map (·.2))∧RunOf Ha Hb (hv+more).toNat b (zz.map (·.2)) D' rr∧IsRun H20 D' rr∧(∀r,r∈rr→r.2.2.2.length≤40)∧rr.length≤1481:=fun x hx=>by
    rcases List.mem_cons.mp hx with rfl | hx
    ·exact ⟨t1,m,D3,ys,rs3,_,_,rfl,s20 _ _ (s19 _ _ h18),hY16.same s1620,lq,R3,R3.run.same s1720,l403,l143⟩
    ·rw [List.mem_singleton.mp hx]
     exact ⟨t2,lz,D2,zs,rs2,_,_,rfl,s20 _ _ h19,hZ.same s1620,lqz,R2,R2.run.same (s16.trans s1620),l402,l142⟩
   have hI20:=hI8.same s820
   have RX:IsRun H20 D rs:=R7.same (s8.trans s820)
   refine zb2 (K:=K) (a:=l20) (xs:=[V.ref t1,V.ref t2]) (fun _ σ H21=>∃v15 v16:Option V,σ=[some (.ref a),some (.int b),some (.ref l),some (.int hv),some (.ref D),some (.int ce),some (.ref m),some (.int more),some (.ref d),v9,v10,v11,v12,some (.ref D2),some (.ref lz),v15,v16]∧Same H20 H21)
    ⟨_,_,rfl,Same.refl _⟩ (fun i σ H21 _ ⟨_,_,_,s⟩=>SqL.of (s _ _ h20)) ?_ ?_
   ·rintro i x σ H21 hi ⟨v15,v16,rfl,s21⟩
    obtain ⟨t,l',D',zz,rr,Ha,Hb,rfl,ht,hZZ,lqq,RR,RI,lr40,lr14⟩:=pk x (List.mem_of_getElem? hi)
    refine ⟨t,_,rfl,SqT.of (s21 _ _ ht),rfl,_,_,rfl,_,_,rfl,rfl,?_⟩
    refine ⟨_,rfl,_,rfl,_,rfl,_,rfl,l,D,l',D',xs,zz,rs,rr,b,rfl,hI20.same s21,RX.same s21,hZZ.same s21,RI.same s21,R.turns,RR.turns,l14,lr14,fun v H22 s22 F=>?_⟩
    have ev:v=.non:=by
     rcases F with ⟨rfl,_⟩ | ⟨k,p,mm,_,_,hmm,_⟩
     ·rfl
     ·rw [zhs R RR hI20 hZZ lqq hhn k] at hmm
      cases hmm
    subst ev
    have s2022:=s21.trans s22
    refine ⟨rfl,_,rfl,iteF ⟨_,rfl,_,rfl,D,D',rs,rr,rfl,RX.same s2022,RI.same s2022,l40,lr40,l14,lr14,zkk R RR hI20 hZZ lqq hhn,fun H23 s23=>⟨_,rfl,iteF ?_⟩⟩⟩
    have s2023:=s2022.trans s23
    refine ⟨_,rfl,_,rfl,_,rfl,_,rfl,l,D,l',D',xs,zz,rs,rr,rfl,hI20.same s2023,RX.same s2023,hZZ.same s2023,RI.same s2023,l14,fun p hp=>?_,fun r hr=>?_,fun H24 s24=>⟨_,rfl,iteF ⟨_,_,rfl,s2023.trans s24⟩⟩⟩
    ·obtain ⟨k,hk,rfl⟩:=List.mem_map.mp hp
     obtain ⟨x,_,mm⟩:=lqq k.2 (List.mem_map.mpr ⟨k,hk,rfl⟩)
     obtain ⟨k',hk',ek'⟩:=List.mem_map.mp mm
     unfold lfX
     rw [List.map_map]
     exact List.mem_map.mpr ⟨k',hk',by show k'.2.1.n=k.2.1.n;rw [ek']⟩
    ·obtain ⟨i,hi,ei⟩:=List.getElem_of_mem hr
     have:=R.turns i (r.2.2.1,r.2.2.2) (by unfold zaj;rw [List.getElem?_map,List.getElem?_eq_getElem hi,ei];rfl)
     have:r.2.2.1=b+i:=this
     rw [this]
     exact zhs R RR hI20 hZZ lqq hhn i
   ·rintro σ H21 ⟨v15,v16,rfl,s21⟩
    have hZ21:=(hZ.same s1620).same s21
    refine ⟨_,rfl,_,rfl,_,rfl,_,rfl,_,rfl,_,_,rfl,rfl,l,lz,xs,zs,hv,hv+more,rfl,(hI20.same s21).chs,x40,okx,hZ21.chs,hZ21.len,fun q hq=>(hZ.ok q hq).ok,fun H22 s22=>?_⟩
    rw [zjl (by omega) lqz]
    exact ⟨_,_,rfl,rfl,_,rfl,iteF ⟨_,_,_,_,_,_,_,_,_,_,_,_,rfl,s8.trans (s820.trans (s21.trans s22))⟩⟩
 ·rintro σ H8 ⟨v5,v6,v7,v8,v9,v10,v11,v12,v13,v14,v15,v16,rfl,s8⟩
  exact q H8
end
theorem all_mk {l:PySem.W.OpenLaw} {w:World} {K:PySem.W.Frag} {h:Heap} {mg:Str→Option Value} {fa f0 f1 f2 f3 f4 f5 f6 f7 f8 f9 f10 f11 f12 f13 f14 f15 f16 f17 f18 f19 f20 f21 f22 f23 f24 f25 f26 f27 f28 f29 f30 f31 f32 f33:Addr} (X:K.In h) (G:h.Ns mainGlobals mg) (hfa:mg "law" = some (.ref fa))
  {od0 an0 od1 an1 od2 an2 od3 an3 od4 an4 od5 an5 od6 an6 od7 an7 od8 an8 od9 an9 od10 an10 od11 an11 od12 an12 od13 an13 od14 an14 od15 an15 od16 an16 od17 an17 od18 an18 od19 an19 od20 an20 od21 an21 od22 an22 od23 an23 od24 an24 od25 an25 od26 an26 od27 an27 od28 an28 od29 an29 od30 an30 od31 an31 od32 an32 od33 an33:Option Addr} {sl0 sl1 sl2 sl3 sl4 sl5 sl6 sl7 sl8 sl9 sl10 sl11 sl12 sl13 sl14 sl15 sl16 sl17 sl18 sl19 sl20 sl21 sl22 sl23 sl24 sl25 sl26 sl27 sl28 sl29 sl30 sl31 sl32 sl33:Array (Option Value)} {oc0 kV0 dc0 pm0 cd0 ct0 oc1 kV1 dc1 pm1 cd1 ct1 oc2 kV2 dc2 pm2 cd2 ct2 oc3 kV3 dc3 pm3 cd3 ct3 oc4 kV4 dc4 pm4 cd4 ct4 oc5 kV5 dc5 pm5 cd5 ct5 oc6 kV6 dc6 pm6 cd6 ct6 oc7 kV7 dc7 pm7 cd7 ct7 oc8 kV8 dc8 pm8 cd8 ct8 oc9 kV9 dc9 pm9 cd9 ct9 oc10 kV10 dc10 pm10 cd10 ct10 oc11 kV11 dc11 pm11 cd11 ct11 oc12 kV12 dc12 pm12 cd12 ct12 oc13 kV13 dc13 pm13 cd13 ct13 oc14 kV14 dc14 pm14 cd14 ct14 oc15 kV15 dc15 pm15 cd15 ct15 oc16 kV16 dc16 pm16 cd16 ct16 oc17 kV17 dc17 pm17 cd17 ct17 oc18 kV18 dc18 pm18 cd18 ct18 oc19 kV19 dc19 pm19 cd19 ct19 oc20 kV20 dc20 pm20 cd20 ct20 oc21 kV21 dc21 pm21 cd21 ct21 oc22 kV22 dc22 pm22 cd22 ct22 oc23 kV23 dc23 pm23 cd23 ct23 oc24 kV24 dc24 pm24 cd24 ct24 oc25 kV25 dc25 pm25 cd25 ct25 oc26 kV26 dc26 pm26 cd26 ct26 oc27 kV27 dc27 pm27 cd27 ct27 oc28 kV28 dc28 pm28 cd28 ct28 oc29 kV29 dc29 pm29 cd29 ct29 oc30 kV30 dc30 pm30 cd30 ct30 oc31 kV31 dc31 pm31 cd31 ct31 oc32 kV32 dc32 pm32 cd32 ct32 oc33 kV33 dc33 pm33 cd33 ct33:Value} {dt20:Addr} {to20:Obj} {tn20:Nat}
  (a0:PySem.W.nsIn K mainGlobals "is_whole" = some (some (.ref f0))) (l0:K.lookup f0=some ⟨oc0,od0,.func (PySem.W.fnOf "is_whole" "is_whole" (zak zbB) (zag zbB) (zac zbB) .none kV0 dc0 pm0 an0 cd0 ct0),sl0⟩) (c0:PySem.W.codeIn K cd0 "is_whole" = true) (k0:PySem.W.keepIn K (.ref f0)=true)
  (a1:PySem.W.nsIn K mainGlobals "common_divisor" = some (some (.ref f1))) (l1:K.lookup f1=some ⟨oc1,od1,.func (PySem.W.fnOf "common_divisor" "common_divisor" (zak zaC) (zag zaC) (zac zaC) .none kV1 dc1 pm1 an1 cd1 ct1),sl1⟩) (c1:PySem.W.codeIn K cd1 "common_divisor" = true) (k1:PySem.W.keepIn K (.ref f1)=true)
  (a2:PySem.W.nsIn K mainGlobals "compared" = some (some (.ref f2))) (l2:K.lookup f2=some ⟨oc2,od2,.func (PySem.W.fnOf "compared" "compared" (zak zbC) (zag zbC) (zac zbC) .none kV2 dc2 pm2 an2 cd2 ct2),sl2⟩) (c2:PySem.W.codeIn K cd2 "compared" = true) (k2:PySem.W.keepIn K (.ref f2)=true)
  (a3:PySem.W.nsIn K mainGlobals "left_at_first" = some (some (.ref f3))) (l3:K.lookup f3=some ⟨oc3,od3,.func (PySem.W.fnOf "left_at_first" "left_at_first" (zak zaJ) (zag zaJ) (zac zaJ) .none kV3 dc3 pm3 an3 cd3 ct3),sl3⟩) (c3:PySem.W.codeIn K cd3 "left_at_first" = true) (k3:PySem.W.keepIn K (.ref f3)=true)
  (a4:PySem.W.nsIn K mainGlobals "left_behind" = some (some (.ref f4))) (l4:K.lookup f4=some ⟨oc4,od4,.func (PySem.W.fnOf "left_behind" "left_behind" (zak za0) (zag za0) (zac za0) .none kV4 dc4 pm4 an4 cd4 ct4),sl4⟩) (c4:PySem.W.codeIn K cd4 "left_behind" = true) (k4:PySem.W.keepIn K (.ref f4)=true)
  (a5:PySem.W.nsIn K mainGlobals "left_by" = some (some (.ref f5))) (l5:K.lookup f5=some ⟨oc5,od5,.func (PySem.W.fnOf "left_by" "left_by" (zak zbU) (zag zbU) (zac zbU) .none kV5 dc5 pm5 an5 cd5 ct5),sl5⟩) (c5:PySem.W.codeIn K cd5 "left_by" = true) (k5:PySem.W.keepIn K (.ref f5)=true)
  (a6:PySem.W.nsIn K mainGlobals "numbers_worse" = some (some (.ref f6))) (l6:K.lookup f6=some ⟨oc6,od6,.func (PySem.W.fnOf "numbers_worse" "numbers_worse" (zak zaK) (zag zaK) (zac zaK) .none kV6 dc6 pm6 an6 cd6 ct6),sl6⟩) (c6:PySem.W.codeIn K cd6 "numbers_worse" = true) (k6:PySem.W.keepIn K (.ref f6)=true)
  (a7:PySem.W.nsIn K mainGlobals "first_worse" = some (some (.ref f7))) (l7:K.lookup f7=some ⟨oc7,od7,.func (PySem.W.fnOf "first_worse" "first_worse" (zak za1) (zag za1) (zac za1) .none kV7 dc7 pm7 an7 cd7 ct7),sl7⟩) (c7:PySem.W.codeIn K cd7 "first_worse" = true) (k7:PySem.W.keepIn K (.ref f7)=true)
  (a8:PySem.W.nsIn K mainGlobals "same_claim" = some (some (.ref f8))) (l8:K.lookup f8=some ⟨oc8,od8,.func (PySem.W.fnOf "same_claim" "same_claim" (zak zbc) (zag zbc) (zac zbc) .none kV8 dc8 pm8 an8 cd8 ct8),sl8⟩) (c8:PySem.W.codeIn K cd8 "same_claim" = true) (k8:PySem.W.keepIn K (.ref f8)=true)
  (a9:PySem.W.nsIn K mainGlobals "is_eased" = some (some (.ref f9))) (l9:K.lookup f9=some ⟨oc9,od9,.func (PySem.W.fnOf "is_eased" "is_eased" (zak zbD) (zag zbD) (zac zbD) .none kV9 dc9 pm9 an9 cd9 ct9),sl9⟩) (c9:PySem.W.codeIn K cd9 "is_eased" = true) (k9:PySem.W.keepIn K (.ref f9)=true)
  (a10:PySem.W.nsIn K mainGlobals "eases" = some (some (.ref f10))) (l10:K.lookup f10=some ⟨oc10,od10,.func (PySem.W.fnOf "eases" "eases" (zak zcP) (zag zcP) (zac zcP) .none kV10 dc10 pm10 an10 cd10 ct10),sl10⟩) (c10:PySem.W.codeIn K cd10 "eases" = true) (k10:PySem.W.keepIn K (.ref f10)=true)
  (a11:PySem.W.nsIn K mainGlobals "common_bottom" = some (some (.ref f11))) (l11:K.lookup f11=some ⟨oc11,od11,.func (PySem.W.fnOf "common_bottom" "common_bottom" (zak zaL) (zag zaL) (zac zaL) .none kV11 dc11 pm11 an11 cd11 ct11),sl11⟩) (c11:PySem.W.codeIn K cd11 "common_bottom" = true) (k11:PySem.W.keepIn K (.ref f11)=true)
  (a12:PySem.W.nsIn K mainGlobals "place_key" = some (some (.ref f12))) (l12:K.lookup f12=some ⟨oc12,od12,.func (PySem.W.fnOf "place_key" "place_key" (zak zbr) (zag zbr) (zac zbr) .none kV12 dc12 pm12 an12 cd12 ct12),sl12⟩) (c12:PySem.W.codeIn K cd12 "place_key" = true) (k12:PySem.W.keepIn K (.ref f12)=true)
  (a13:PySem.W.nsIn K mainGlobals "claims_in_order" = some (some (.ref f13))) (l13:K.lookup f13=some ⟨oc13,od13,.func (PySem.W.fnOf "claims_in_order" "claims_in_order" (zak zah) (zag zah) (zac zah) .none kV13 dc13 pm13 an13 cd13 ct13),sl13⟩) (c13:PySem.W.codeIn K cd13 "claims_in_order" = true) (k13:PySem.W.keepIn K (.ref f13)=true)
  (a14:PySem.W.nsIn K mainGlobals "numbers_in_order" = some (some (.ref f14))) (l14:K.lookup f14=some ⟨oc14,od14,.func (PySem.W.fnOf "numbers_in_order" "numbers_in_order" (zak zax) (zag zax) (zac zax) .none kV14 dc14 pm14 an14 cd14 ct14),sl14⟩) (c14:PySem.W.codeIn K cd14 "numbers_in_order" = true) (k14:PySem.W.keepIn K (.ref f14)=true)
  (a15:PySem.W.nsIn K mainGlobals "numbers_worked" = some (some (.ref f15))) (l15:K.lookup f15=some ⟨oc15,od15,.func (PySem.W.fnOf "numbers_worked" "numbers_worked" (zak zaD) (zag zaD) (zac zaD) .none kV15 dc15 pm15 an15 cd15 ct15),sl15⟩) (c15:PySem.W.codeIn K cd15 "numbers_worked" = true) (k15:PySem.W.keepIn K (.ref f15)=true)
  (a16:PySem.W.nsIn K mainGlobals "chores_behind" = some (some (.ref f16))) (l16:K.lookup f16=some ⟨oc16,od16,.func (PySem.W.fnOf "chores_behind" "chores_behind" (zak zaM) (zag zaM) (zac zaM) .none kV16 dc16 pm16 an16 cd16 ct16),sl16⟩) (c16:PySem.W.codeIn K cd16 "chores_behind" = true) (k16:PySem.W.keepIn K (.ref f16)=true)
  (a17:PySem.W.nsIn K mainGlobals "turn_done" = some (some (.ref f17))) (l17:K.lookup f17=some ⟨oc17,od17,.func (PySem.W.fnOf "turn_done" "turn_done" (zak zbs) (zag zbs) (zac zbs) .none kV17 dc17 pm17 an17 cd17 ct17),sl17⟩) (c17:PySem.W.codeIn K cd17 "turn_done" = true) (k17:PySem.W.keepIn K (.ref f17)=true)
  (a18:PySem.W.nsIn K mainGlobals "work_taken" = some (some (.ref f18))) (l18:K.lookup f18=some ⟨oc18,od18,.func (PySem.W.fnOf "work_taken" "work_taken" (zak zbd) (zag zbd) (zac zbd) .none kV18 dc18 pm18 an18 cd18 ct18),sl18⟩) (c18:PySem.W.codeIn K cd18 "work_taken" = true) (k18:PySem.W.keepIn K (.ref f18)=true)
  (a19:PySem.W.nsIn K mainGlobals "chores_taken" = some (some (.ref f19))) (l19:K.lookup f19=some ⟨oc19,od19,.func (PySem.W.fnOf "chores_taken" "chores_taken" (zak zaR) (zag zaR) (zac zaR) .none kV19 dc19 pm19 an19 cd19 ct19),sl19⟩) (c19:PySem.W.codeIn K cd19 "chores_taken" = true) (k19:PySem.W.keepIn K (.ref f19)=true)
  (a20:PySem.W.nsIn K mainGlobals "run_of" = some (some (.ref f20))) (l20:K.lookup f20=some ⟨oc20,od20,.func (PySem.W.fnOf "run_of" "run_of" (zak zcj) (zag zcj) (zac zcj) (.ref dt20) kV20 dc20 pm20 an20 cd20 ct20),sl20⟩) (c20:PySem.W.codeIn K cd20 "run_of" = true) (k20:PySem.W.keepIn K (.ref f20)=true)
  (t20:K.lookup dt20=some to20) (u20:to20.data=.seq #[.none] tn20)
  (a21:PySem.W.nsIn K mainGlobals "_law_cell" = some (some (.ref f21))) (l21:K.lookup f21=some ⟨oc21,od21,.func (PySem.W.fnOf "_law_cell" "_law_cell" (zak zbE) (zag zbE) (zac zbE) .none kV21 dc21 pm21 an21 cd21 ct21),sl21⟩) (c21:PySem.W.codeIn K cd21 "_law_cell" = true) (k21:PySem.W.keepIn K (.ref f21)=true)
  (a22:PySem.W.nsIn K mainGlobals "_law_mix" = some (some (.ref f22))) (l22:K.lookup f22=some ⟨oc22,od22,.func (PySem.W.fnOf "_law_mix" "_law_mix" (zak zbV) (zag zbV) (zac zbV) .none kV22 dc22 pm22 an22 cd22 ct22),sl22⟩) (c22:PySem.W.codeIn K cd22 "_law_mix" = true) (k22:PySem.W.keepIn K (.ref f22)=true)
  (a23:PySem.W.nsIn K mainGlobals "_law_draw" = some (some (.ref f23))) (l23:K.lookup f23=some ⟨oc23,od23,.func (PySem.W.fnOf "_law_draw" "_law_draw" (zak zbF) (zag zbF) (zac zbF) .none kV23 dc23 pm23 an23 cd23 ct23),sl23⟩) (c23:PySem.W.codeIn K cd23 "_law_draw" = true) (k23:PySem.W.keepIn K (.ref f23)=true)
  (a24:PySem.W.nsIn K mainGlobals "_law_weight" = some (some (.ref f24))) (l24:K.lookup f24=some ⟨oc24,od24,.func (PySem.W.fnOf "_law_weight" "_law_weight" (zak zbe) (zag zbe) (zac zbe) .none kV24 dc24 pm24 an24 cd24 ct24),sl24⟩) (c24:PySem.W.codeIn K cd24 "_law_weight" = true) (k24:PySem.W.keepIn K (.ref f24)=true)
  (a25:PySem.W.nsIn K mainGlobals "_law_begin" = some (some (.ref f25))) (l25:K.lookup f25=some ⟨oc25,od25,.func (PySem.W.fnOf "_law_begin" "_law_begin" (zak zbt) (zag zbt) (zac zbt) .none kV25 dc25 pm25 an25 cd25 ct25),sl25⟩) (c25:PySem.W.codeIn K cd25 "_law_begin" = true) (k25:PySem.W.keepIn K (.ref f25)=true)
  (a26:PySem.W.nsIn K mainGlobals "_law_chore" = some (some (.ref f26))) (l26:K.lookup f26=some ⟨oc26,od26,.func (PySem.W.fnOf "_law_chore" "_law_chore" (zak zbu) (zag zbu) (zac zbu) .none kV26 dc26 pm26 an26 cd26 ct26),sl26⟩) (c26:PySem.W.codeIn K cd26 "_law_chore" = true) (k26:PySem.W.keepIn K (.ref f26)=true)
  (a27:PySem.W.nsIn K mainGlobals "_law_chores" = some (some (.ref f27))) (l27:K.lookup f27=some ⟨oc27,od27,.func (PySem.W.fnOf "_law_chores" "_law_chores" (zak zbf) (zag zbf) (zac zbf) .none kV27 dc27 pm27 an27 cd27 ct27),sl27⟩) (c27:PySem.W.codeIn K cd27 "_law_chores" = true) (k27:PySem.W.keepIn K (.ref f27)=true)
  (a28:PySem.W.nsIn K mainGlobals "_law_easier" = some (some (.ref f28))) (l28:K.lookup f28=some ⟨oc28,od28,.func (PySem.W.fnOf "_law_easier" "_law_easier" (zak zbg) (zag zbg) (zac zbg) .none kV28 dc28 pm28 an28 cd28 ct28),sl28⟩) (c28:PySem.W.codeIn K cd28 "_law_easier" = true) (k28:PySem.W.keepIn K (.ref f28)=true)
  (a29:PySem.W.nsIn K mainGlobals "_law_teller" = some (some (.ref f29))) (l29:K.lookup f29=some ⟨oc29,od29,.func (PySem.W.fnOf "_law_teller" "_law_teller" (zak zas) (zag zas) (zac zas) .none kV29 dc29 pm29 an29 cd29 ct29),sl29⟩) (c29:PySem.W.codeIn K cd29 "_law_teller" = true) (k29:PySem.W.keepIn K (.ref f29)=true)
  (a30:PySem.W.nsIn K mainGlobals "_law_lasts" = some (some (.ref f30))) (l30:K.lookup f30=some ⟨oc30,od30,.func (PySem.W.fnOf "_law_lasts" "_law_lasts" (zak zbv) (zag zbv) (zac zbv) .none kV30 dc30 pm30 an30 cd30 ct30),sl30⟩) (c30:PySem.W.codeIn K cd30 "_law_lasts" = true) (k30:PySem.W.keepIn K (.ref f30)=true)
  (a31:PySem.W.nsIn K mainGlobals "_law_no_later" = some (some (.ref f31))) (l31:K.lookup f31=some ⟨oc31,od31,.func (PySem.W.fnOf "_law_no_later" "_law_no_later" (zak zaS) (zag zaS) (zac zaS) .none kV31 dc31 pm31 an31 cd31 ct31),sl31⟩) (c31:PySem.W.codeIn K cd31 "_law_no_later" = true) (k31:PySem.W.keepIn K (.ref f31)=true)
  (a32:PySem.W.nsIn K mainGlobals "_law_no_more" = some (some (.ref f32))) (l32:K.lookup f32=some ⟨oc32,od32,.func (PySem.W.fnOf "_law_no_more" "_law_no_more" (zak za2) (zag za2) (zac za2) .none kV32 dc32 pm32 an32 cd32 ct32),sl32⟩) (c32:PySem.W.codeIn K cd32 "_law_no_more" = true) (k32:PySem.W.keepIn K (.ref f32)=true)
  (a33:PySem.W.nsIn K mainGlobals "law" = some (some (.ref f33))) (l33:K.lookup f33=some ⟨oc33,od33,.func (PySem.W.fnOf "law" "law" (zak zes) (zag zes) (zac zes) .none kV33 dc33 pm33 an33 cd33 ct33),sl33⟩) (c33:PySem.W.codeIn K cd33 "law" = true) (k33:PySem.W.keepIn K (.ref f33)=true)
  (z_all:PySem.W.nsIn K mainGlobals "all" = some none)
  (z_any:PySem.W.nsIn K mainGlobals "any" = some none)
  (z_bool:PySem.W.nsIn K mainGlobals "bool" = some none)
  (z_dict:PySem.W.nsIn K mainGlobals "dict" = some none)
  (z_enumerate:PySem.W.nsIn K mainGlobals "enumerate" = some none)
  (z_int:PySem.W.nsIn K mainGlobals "int" = some none)
  (z_isinstance:PySem.W.nsIn K mainGlobals "isinstance" = some none)
  (z_len:PySem.W.nsIn K mainGlobals "len" = some none)
  (z_max:PySem.W.nsIn K mainGlobals "max" = some none)
  (z_min:PySem.W.nsIn K mainGlobals "min" = some none)
  (z_range:PySem.W.nsIn K mainGlobals "range" = some none)
  (z_set:PySem.W.nsIn K mainGlobals "set" = some none)
  (z_sorted:PySem.W.nsIn K mainGlobals "sorted" = some none)
  (zcy:PySem.W.kitOne K (.type "int") (.type "int")=some true)
  (zcd:PySem.W.kitOne K (.type "int") (.type "bool")=some false)
  (zck:PySem.W.kitOne K (.type "bool") (.type "bool")=some true)
  (tn:zhH K cd13 cd29=true)
  : ∃(fd fg fg':FuncData) (ag ag':Addr) (og og':Obj),(∀(s:Shared) (v:Value),BindsTo s fd ⟨[v],[]⟩ [("_law_script",v)])∧mg "claims_in_order" = some (.ref ag)∧K.lookup ag=some og∧og.data=.func fg∧mg "_law_teller" = some (.ref ag')∧K.lookup ag'=some og'∧og'.data=.func fg'∧zhH K fg.code fg'.code=true∧∀(tT tL:Addr) (base:Heap),K.In base→base.Ns mainGlobals mg→Site K mg base fg.code tT→Site K mg base fg'.code tL→FnOk l.prog w K mg base CX0 11 fa fd ["_law_script"] (zij K tT tL):=by
 have e:=hfa.symm.trans (PySem.W.mg_of X G a33)
 cases e
 have T:Txt K mg:=⟨PySem.W.mg_none_of X G z_all,PySem.W.mg_none_of X G z_any,PySem.W.mg_none_of X G z_bool,PySem.W.mg_none_of X G z_dict,PySem.W.mg_none_of X G z_enumerate,PySem.W.mg_none_of X G z_int,PySem.W.mg_none_of X G z_isinstance,PySem.W.mg_none_of X G z_len,PySem.W.mg_none_of X G z_max,PySem.W.mg_none_of X G z_min,PySem.W.mg_none_of X G z_range,PySem.W.mg_none_of X G z_set,PySem.W.mg_none_of X G z_sorted,zcy,zcd,zck⟩
 have F0:=zaE (st:=zbB) l0 c0 k0
 have b0:=F0.binds (ps:=["thing","low","high"]) fun _ _ _ _ _ _ us hl=>by obtain ⟨_,_,_,rfl⟩:=ul3 hl;rfl
 have zhP:Dfn K mg "is_whole" zbB ["thing","low","high"] _ _:=⟨F0,b0,PySem.W.mg_of X G a0⟩
 have F1:=zaE (st:=zaC) l1 c1 k1
 have b1:=F1.binds (ps:=["one","other"]) fun _ _ _ _ _ _ us hl=>by obtain ⟨_,_,rfl⟩:=ul2 hl;rfl
 have zdK:Dfn K mg "common_divisor" zaC ["one","other"] _ _:=⟨F1,b1,PySem.W.mg_of X G a1⟩
 have F2:=zaE (st:=zbC) l2 c2 k2
 have b2:=F2.binds (ps:=["one","other"]) fun _ _ _ _ _ _ us hl=>by obtain ⟨_,_,rfl⟩:=ul2 hl;rfl
 have zhQ:Dfn K mg "compared" zbC ["one","other"] _ _:=⟨F2,b2,PySem.W.mg_of X G a2⟩
 have F3:=zaE (st:=zaJ) l3 c3 k3
 have b3:=F3.binds (ps:=["chores"]) fun _ _ _ _ _ _ us hl=>by obtain ⟨_,rfl⟩:=ul1 hl;rfl
 have zen:Dfn K mg "left_at_first" zaJ ["chores"] _ _:=⟨F3,b3,PySem.W.mg_of X G a3⟩
 have F4:=zaE (st:=za0) l4 c4 k4
 have b4:=F4.binds (ps:=["left","numbers"]) fun _ _ _ _ _ _ us hl=>by obtain ⟨_,_,rfl⟩:=ul2 hl;rfl
 have zfl:Dfn K mg "left_behind" za0 ["left","numbers"] _ _:=⟨F4,b4,PySem.W.mg_of X G a4⟩
 have F5:=zaE (st:=zbU) l5 c5 k5
 have b5:=F5.binds (ps:=["chores","rows","turn"]) fun _ _ _ _ _ _ us hl=>by obtain ⟨_,_,_,rfl⟩:=ul3 hl;rfl
 have zjm:Dfn K mg "left_by" zbU ["chores","rows","turn"] _ _:=⟨F5,b5,PySem.W.mg_of X G a5⟩
 have F6:=zaE (st:=zaK) l6 c6 k6
 have b6:=F6.binds (ps:=["left","other_left"]) fun _ _ _ _ _ _ us hl=>by obtain ⟨_,_,rfl⟩:=ul2 hl;rfl
 have zeo:Dfn K mg "numbers_worse" zaK ["left","other_left"] _ _:=⟨F6,b6,PySem.W.mg_of X G a6⟩
 have F7:=zaE (st:=za1) l7 c7 k7
 have b7:=F7.binds (ps:=["chores","rows","other","other_rows"]) fun _ _ _ _ _ _ us hl=>by obtain ⟨_,_,_,_,rfl⟩:=ul4 hl;rfl
 have zfm:Dfn K mg "first_worse" za1 ["chores","rows","other","other_rows"] _ _:=⟨F7,b7,PySem.W.mg_of X G a7⟩
 have F8:=zaE (st:=zbc) l8 c8 k8
 have b8:=F8.binds (ps:=["one","other"]) fun _ _ _ _ _ _ us hl=>by obtain ⟨_,_,rfl⟩:=ul2 hl;rfl
 have zf4:Dfn K mg "same_claim" zbc ["one","other"] _ _:=⟨F8,b8,PySem.W.mg_of X G a8⟩
 have F9:=zaE (st:=zbD) l9 c9 k9
 have b9:=F9.binds (ps:=["chore","chores"]) fun _ _ _ _ _ _ us hl=>by obtain ⟨_,_,rfl⟩:=ul2 hl;rfl
 have zhR:Dfn K mg "is_eased" zbD ["chore","chores"] _ _:=⟨F9,b9,PySem.W.mg_of X G a9⟩
 have F10:=zaE (st:=zcP) l10 c10 k10
 have b10:=F10.binds (ps:=["chores","hands","other","other_hands"]) fun _ _ _ _ _ _ us hl=>by obtain ⟨_,_,_,_,rfl⟩:=ul4 hl;rfl
 have zlW:Dfn K mg "eases" zcP ["chores","hands","other","other_hands"] _ _:=⟨F10,b10,PySem.W.mg_of X G a10⟩
 have F11:=zaE (st:=zaL) l11 c11 k11
 have b11:=F11.binds (ps:=["claims"]) fun _ _ _ _ _ _ us hl=>by obtain ⟨_,rfl⟩:=ul1 hl;rfl
 have zep:Dfn K mg "common_bottom" zaL ["claims"] _ _:=⟨F11,b11,PySem.W.mg_of X G a11⟩
 have F12:=zaE (st:=zbr) l12 c12 k12
 have b12:=F12.binds (ps:=["claim","turn","common"]) fun _ _ _ _ _ _ us hl=>by obtain ⟨_,_,_,rfl⟩:=ul3 hl;rfl
 have zgG:Dfn K mg "place_key" zbr ["claim","turn","common"] _ _:=⟨F12,b12,PySem.W.mg_of X G a12⟩
 have F13:=zaE (st:=zah) l13 c13 k13
 have b13:=F13.binds (ps:=["claims","turn"]) fun _ _ _ _ _ _ us hl=>by obtain ⟨_,_,rfl⟩:=ul2 hl;rfl
 have zdt:DfnC K mg "claims_in_order" zah ["claims","turn"] _ _ _:=⟨ziC (st:=zah) l13 c13,k13,b13,PySem.W.mg_of X G a13⟩
 have F14:=zaE (st:=zax) l14 c14 k14
 have b14:=F14.binds (ps:=["claims","turn"]) fun _ _ _ _ _ _ us hl=>by obtain ⟨_,_,rfl⟩:=ul2 hl;rfl
 have zc8:Dfn K mg "numbers_in_order" zax ["claims","turn"] _ _:=⟨F14,b14,PySem.W.mg_of X G a14⟩
 have F15:=zaE (st:=zaD) l15 c15 k15
 have b15:=F15.binds (ps:=["chores","hands","turn"]) fun _ _ _ _ _ _ us hl=>by obtain ⟨_,_,_,rfl⟩:=ul3 hl;rfl
 have zdL:Dfn K mg "numbers_worked" zaD ["chores","hands","turn"] _ _:=⟨F15,b15,PySem.W.mg_of X G a15⟩
 have F16:=zaE (st:=zaM) l16 c16 k16
 have b16:=F16.binds (ps:=["chores","numbers"]) fun _ _ _ _ _ _ us hl=>by obtain ⟨_,_,rfl⟩:=ul2 hl;rfl
 have zeq:Dfn K mg "chores_behind" zaM ["chores","numbers"] _ _:=⟨F16,b16,PySem.W.mg_of X G a16⟩
 have F17:=zaE (st:=zbs) l17 c17 k17
 have b17:=F17.binds (ps:=["chores","hands","turn"]) fun _ _ _ _ _ _ us hl=>by obtain ⟨_,_,_,rfl⟩:=ul3 hl;rfl
 have zgH:Dfn K mg "turn_done" zbs ["chores","hands","turn"] _ _:=⟨F17,b17,PySem.W.mg_of X G a17⟩
 have F18:=zaE (st:=zbd) l18 c18 k18
 have b18:=F18.binds (ps:=["chore","real"]) fun _ _ _ _ _ _ us hl=>by obtain ⟨_,_,rfl⟩:=ul2 hl;rfl
 have zf5:Dfn K mg "work_taken" zbd ["chore","real"] _ _:=⟨F18,b18,PySem.W.mg_of X G a18⟩
 have F19:=zaE (st:=zaR) l19 c19 k19
 have b19:=F19.binds (ps:=["chores","real"]) fun _ _ _ _ _ _ us hl=>by obtain ⟨_,_,rfl⟩:=ul2 hl;rfl
 have zex:Dfn K mg "chores_taken" zaR ["chores","real"] _ _:=⟨F19,b19,PySem.W.mg_of X G a19⟩
 have F20:=zls (st:=zcj) l20 c20 k20 t20 u20
 have b20:=F20.binds (ps:=["chores","hands","begin","real"]) fun _ _ _ _ _ _ _ us hl=>by obtain ⟨_,_,_,_,rfl⟩:=ul4 hl;exact ⟨_,rfl,rfl⟩
 have bd20:=F20.bindsD (ps:=["chores","hands","begin","real"]) fun _ _ _ _ _ _ _ us hl=>by obtain ⟨_,_,_,rfl⟩:=ul3 (show us.length=3 by rw [List.length_append] at hl;exact Nat.succ.inj hl);exact ⟨_,rfl,rfl⟩
 have zkn:DfnD K mg "run_of" zcj ["chores","hands","begin","real"] _ _:=⟨F20,b20,bd20,PySem.W.mg_of X G a20⟩
 have F21:=zaE (st:=zbE) l21 c21 k21
 have b21:=F21.binds (ps:=["_law_script","_law_k"]) fun _ _ _ _ _ _ us hl=>by obtain ⟨_,_,rfl⟩:=ul2 hl;rfl
 have zhS:Dfn K mg "_law_cell" zbE ["_law_script","_law_k"] _ _:=⟨F21,b21,PySem.W.mg_of X G a21⟩
 have F22:=zaE (st:=zbV) l22 c22 k22
 have b22:=F22.binds (ps:=["_law_cell_here","_law_k"]) fun _ _ _ _ _ _ us hl=>by obtain ⟨_,_,rfl⟩:=ul2 hl;rfl
 have zjn:Dfn K mg "_law_mix" zbV ["_law_cell_here","_law_k"] _ _:=⟨F22,b22,PySem.W.mg_of X G a22⟩
 have F23:=zaE (st:=zbF) l23 c23 k23
 have b23:=F23.binds (ps:=["_law_cell_here","_law_k"]) fun _ _ _ _ _ _ us hl=>by obtain ⟨_,_,rfl⟩:=ul2 hl;rfl
 have zhT:Dfn K mg "_law_draw" zbF ["_law_cell_here","_law_k"] _ _:=⟨F23,b23,PySem.W.mg_of X G a23⟩
 have F24:=zaE (st:=zbe) l24 c24 k24
 have b24:=F24.binds (ps:=["_law_number"]) fun _ _ _ _ _ _ us hl=>by obtain ⟨_,rfl⟩:=ul1 hl;rfl
 have zf6:Dfn K mg "_law_weight" zbe ["_law_number"] _ _:=⟨F24,b24,PySem.W.mg_of X G a24⟩
 have F25:=zaE (st:=zbt) l25 c25 k25
 have b25:=F25.binds (ps:=["_law_script"]) fun _ _ _ _ _ _ us hl=>by obtain ⟨_,rfl⟩:=ul1 hl;rfl
 have zgI:Dfn K mg "_law_begin" zbt ["_law_script"] _ _:=⟨F25,b25,PySem.W.mg_of X G a25⟩
 have F26:=zaE (st:=zbu) l26 c26 k26
 have b26:=F26.binds (ps:=["_law_cell_here","_law_number","_law_begin_here","_law_most"]) fun _ _ _ _ _ _ us hl=>by obtain ⟨_,_,_,_,rfl⟩:=ul4 hl;rfl
 have zgJ:Dfn K mg "_law_chore" zbu ["_law_cell_here","_law_number","_law_begin_here","_law_most"] _ _:=⟨F26,b26,PySem.W.mg_of X G a26⟩
 have F27:=zaE (st:=zbf) l27 c27 k27
 have b27:=F27.binds (ps:=["_law_script","_law_start","_law_begin_here"]) fun _ _ _ _ _ _ us hl=>by obtain ⟨_,_,_,rfl⟩:=ul3 hl;rfl
 have zf7:Dfn K mg "_law_chores" zbf ["_law_script","_law_start","_law_begin_here"] _ _:=⟨F27,b27,PySem.W.mg_of X G a27⟩
 have F28:=zaE (st:=zbg) l28 c28 k28
 have b28:=F28.binds (ps:=["_law_chores_here","_law_cell_here"]) fun _ _ _ _ _ _ us hl=>by obtain ⟨_,_,rfl⟩:=ul2 hl;rfl
 have zf8:Dfn K mg "_law_easier" zbg ["_law_chores_here","_law_cell_here"] _ _:=⟨F28,b28,PySem.W.mg_of X G a28⟩
 have F29:=zaE (st:=zas) l29 c29 k29
 have b29:=F29.binds (ps:=["_law_reals"]) fun _ _ _ _ _ _ us hl=>by obtain ⟨_,rfl⟩:=ul1 hl;rfl
 have zf9:DfnC K mg "_law_teller" zas ["_law_reals"] _ _ _:=⟨ziC (st:=zas) l29 c29,k29,b29,PySem.W.mg_of X G a29⟩
 have F30:=zaE (st:=zbv) l30 c30 k30
 have b30:=F30.binds (ps:=["_law_rows"]) fun _ _ _ _ _ _ us hl=>by obtain ⟨_,rfl⟩:=ul1 hl;rfl
 have zgK:Dfn K mg "_law_lasts" zbv ["_law_rows"] _ _:=⟨F30,b30,PySem.W.mg_of X G a30⟩
 have F31:=zaE (st:=zaS) l31 c31 k31
 have b31:=F31.binds (ps:=["_law_rows","_law_other_rows"]) fun _ _ _ _ _ _ us hl=>by obtain ⟨_,_,rfl⟩:=ul2 hl;rfl
 have zey:Dfn K mg "_law_no_later" zaS ["_law_rows","_law_other_rows"] _ _:=⟨F31,b31,PySem.W.mg_of X G a31⟩
 have F32:=zaE (st:=za2) l32 c32 k32
 have b32:=F32.binds (ps:=["_law_chores_here","_law_rows","_law_other","_law_other_rows"]) fun _ _ _ _ _ _ us hl=>by obtain ⟨_,_,_,_,rfl⟩:=ul4 hl;rfl
 have zfn:Dfn K mg "_law_no_more" za2 ["_law_chores_here","_law_rows","_law_other","_law_other_rows"] _ _:=⟨F32,b32,PySem.W.mg_of X G a32⟩
 have F33:=zaE (st:=zes) l33 c33 k33
 have b33:=F33.binds (ps:=["_law_script"]) fun _ _ _ _ _ _ us hl=>by obtain ⟨_,rfl⟩:=ul1 hl;rfl
 have znu:Dfn K mg "law" zes ["_law_script"] _ _:=⟨F33,b33,PySem.W.mg_of X G a33⟩
 refine ⟨PySem.W.fnOf "law" "law" (zak zes) (zag zes) (zac zes) .none kV33 dc33 pm33 an33 cd33 ct33,PySem.W.fnOf "claims_in_order" "claims_in_order" (zak zah) (zag zah) (zac zah) .none kV13 dc13 pm13 an13 cd13 ct13,PySem.W.fnOf "_law_teller" "_law_teller" (zak zas) (zag zas) (zac zas) .none kV29 dc29 pm29 an29 cd29 ct29,f13,f29,⟨oc13,od13,.func (PySem.W.fnOf "claims_in_order" "claims_in_order" (zak zah) (zag zah) (zac zah) .none kV13 dc13 pm13 an13 cd13 ct13),sl13⟩,⟨oc29,od29,.func (PySem.W.fnOf "_law_teller" "_law_teller" (zak zas) (zag zas) (zac zas) .none kV29 dc29 pm29 an29 cd29 ct29),sl29⟩,fun s v=>.of_eq rfl,PySem.W.mg_of X G a13,l13,rfl,PySem.W.mg_of X G a29,l29,rfl,tn,fun tT tL base _ _ SI SL=>?_⟩
 have zaN:=zdH (P:=l.prog) (w:=w) (base:=base) zen T
 have za3:=zeu (P:=l.prog) (w:=w) (base:=base) zfl T
 have zbY:=zdJ (P:=l.prog) (w:=w) (base:=base) zeo T
 have zcn:=zev (P:=l.prog) (w:=w) (base:=base) zfm T zaN za3 zbY
 have zcK:=zgz (P:=l.prog) (w:=w) (base:=base) zhQ T
 have zcB:=zfc (P:=l.prog) (w:=w) (base:=base) zf4 T zcK
 have zdr:=zgB (P:=l.prog) (w:=w) (base:=base) zhR T zcB
 have zfk:=zkj (P:=l.prog) (w:=w) (base:=base) zlW T zdr
 have zaW:=zdF (P:=l.prog) (w:=w) (base:=base) zeq T
 have zbO:=zdo (P:=l.prog) (w:=w) (base:=base) zdK T
 have zbW:=zdE (P:=l.prog) (w:=w) (base:=base) zep T zbO
 have zcQ:=zfW (P:=l.prog) (w:=w) (base:=base) zgG T
 have zbG:=zc5 (P:=l.prog) (w:=w) (base:=base) (tT:=tT) zdt SI T zbW zcQ
 have zbz:=zcS (P:=l.prog) (w:=w) (base:=base) zc8 T zbG
 have zbP:=zdp (P:=l.prog) (w:=w) (base:=base) zdL T zbz
 have zcT:=zfX (P:=l.prog) (w:=w) (base:=base) zgH T zbP zaW
 have zdq:=zgw (P:=l.prog) (w:=w) (base:=base) zhP T
 have zcA:=zfa (P:=l.prog) (w:=w) (base:=base) zf5 T zdq
 have zca:=zej (P:=l.prog) (w:=w) (base:=base) zex T zcA
 have zc7:=zja (P:=l.prog) (w:=w) (base:=base) zkn T zaW zcT zca
 have za5:=zgD (P:=l.prog) (w:=w) (base:=base) zhS T
 have zbh:=zhO (P:=l.prog) (w:=w) (base:=base) zjn T
 have zav:=zgF (P:=l.prog) (w:=w) (base:=base) zhT T zbh
 have zcW:=zf1 (P:=l.prog) (w:=w) (base:=base) zgI T za5 zav
 have zb6:=zff (P:=l.prog) (w:=w) (base:=base) zf6 T
 have zcV:=zf2 (P:=l.prog) (w:=w) (base:=base) zgJ T zav zb6
 have zcC:=zfg (P:=l.prog) (w:=w) (base:=base) zf7 T za5 zav zcV
 have zcD:=zfh (P:=l.prog) (w:=w) (base:=base) zf8 T zbh
 have zcE:=zfj (P:=l.prog) (w:=w) (base:=base) (tL:=tL) zf9 SL
 have zcm:=zf3 (P:=l.prog) (w:=w) (base:=base) zgK T
 have zcb:=zem (P:=l.prog) (w:=w) (base:=base) zey T zcm
 have zc6:=zhN (P:=l.prog) (w:=w) (base:=base) zjm T zaN za3
 have zco:=zew (P:=l.prog) (w:=w) (base:=base) zfn T zc6
 exact zm2 znu T zcn zfk zc7 za5 zbh zav zcW zcC zcD zcE zcb zco
theorem walk {l:PySem.W.OpenLaw} {q:Program} {loose:List Str} {XP:(Str→Option Value)→Heap→Prop} {YP:World→Heap→Prop} {d:DefRec} {K:Params→PySem.W.Frag} (hn:l.most=some 63) (hdf:d.params.defaults=[])
  (hY:∀(w:World) (h:Heap),YP w h→(K w.params).In h) (hK:∀p,zd5 (K p)=true) (hrec:∃dr,(PyProof.Rows.recsOf q).find? (fun e=>e.name==("claims_in_order" : Str))=some dr) (hrec':∃dr,(PyProof.Rows.recsOf q).find? (fun e=>e.name==("_law_teller" : Str))=some dr)
  (F:∀(w:World) (mg:Str→Option Value) (fa:Addr) (h:Heap),(K w.params).In h→h.Ns mainGlobals mg→mg d.name=some (.ref fa)→
    ∃(fd fg fg':FuncData) (ag ag':Addr) (og og':Obj),(∀(s:Shared) (u:Value),BindsTo s fd ⟨[u],[]⟩ [("_law_script",u)])∧mg "claims_in_order" = some (.ref ag)∧(K w.params).lookup ag=some og∧og.data=.func fg∧mg "_law_teller" = some (.ref ag')∧(K w.params).lookup ag'=some og'∧og'.data=.func fg'∧zhH (K w.params) fg.code fg'.code=true∧
     ∀(tT tL:Addr) (base:Heap),(K w.params).In base→base.Ns mainGlobals mg→Site (K w.params) mg base fg.code tT→Site (K w.params) mg base fg'.code tL→FnOk l.prog w (K w.params) mg base CX0 11 fa fd ["_law_script"] (zij (K w.params) tT tL)):
  PySem.W.WalkO q loose XP YP l.row.toRowW d [] (fun f vs=>PySem.call f vs):=
 L2.walk_of2 (n:=63) (k:=11) (x := "_law_script") (g := "claims_in_order") (g' := "_law_teller") (lp:=zeh) (q:=lamQ) (lp':=ze8) (q':=zkh) (sp:=fun K tT tL=>zij K tT tL) hn (by decide) hdf ⟨rfl,by decide,by decide,rfl⟩ hY hK hrec hrec' F (fun _ _ _ _ a ns hl hT hT' hS=>⟨a,ns,rfl,hS,hl,hT,hT',fun _=>rfl⟩)
end K71
theorem PySem.W.Fast.tw10990954345063426912:True:=trivial
theorem PySem.W.Fast.tw13218335019269088101:True:=trivial
theorem PySem.W.Fast.tw17274710330041618633:True:=trivial
theorem PySem.W.Fast.tw11012556549673060172:True:=trivial
theorem PySem.W.Fast.tw4239981872363530509:True:=trivial
theorem PySem.W.Fast.tw8814809084796270734:True:=trivial
theorem PySem.W.Fast.tw9463267816231336533:True:=trivial
theorem PySem.W.Fast.tw16152932536433445983:True:=trivial
theorem PySem.W.Fast.tw10337136488211935071:True:=trivial
theorem PySem.W.Fast.tw3893008854947602185:True:=trivial
theorem PySem.W.Fast.tw1787684994958036123:True:=trivial
theorem PySem.W.Fast.tw14674857654603230233:True:=trivial
theorem PySem.W.Fast.tw4257638490595091988:True:=trivial
theorem PySem.W.Fast.tw5106530888172387760:True:=trivial
theorem PySem.W.Fast.tw8721185363645901030:True:=trivial
theorem PySem.W.Fast.tw11074410007986424945:True:=trivial
theorem PySem.W.Fast.tw17643803592045160628:True:=trivial
theorem PySem.W.Fast.tw6004720975473251831:True:=trivial
theorem PySem.W.Fast.tw9701386091903676998:True:=trivial
theorem PySem.W.Fast.tw13734176623693815408:True:=trivial
theorem PySem.W.Fast.tw12791449983612181669:True:=trivial
theorem PySem.W.Fast.tw2155661811437542716:True:=trivial
theorem PySem.W.Fast.tw2602011735248668819:True:=trivial
theorem PySem.W.Fast.tw9076327055710258626:True:=trivial
theorem PySem.W.Fast.tw10936764019496027143:True:=trivial
theorem PySem.W.Fast.tw8289353570497764923:True:=trivial
theorem PySem.W.Fast.tw13139404298843344564:True:=trivial
theorem PySem.W.Fast.tw2043597390891357849:True:=trivial
theorem PySem.W.Fast.tw18172234860050960433:True:=trivial
theorem PySem.W.Fast.tw3637529805039090418:True:=trivial
theorem PySem.W.Fast.tw18159297150783526999:True:=trivial
theorem PySem.W.Fast.tw10320147051644951941:True:=trivial
theorem PySem.W.Fast.tw11982290602629252687:True:=trivial
open PySem PySem.W PyProof.Rows
set_option maxRecDepth 100000 in
set_option maxHeartbeats 0 in
theorem PySem.Challenge.cw_greywait_k71_whole_less_is_never_later_holds : PySem.Challenge.rw_greywait_k71_whole_less_is_never_later.Holds := by
 w_on;o_law;k_head;(case hw=>w_witness2)
 k_fill
 refine K71.walk (l:=PySem.Challenge.rw_greywait_k71_whole_less_is_never_later) rfl rfl (fun w h Y=>PySem.W.km_in_of Y) (fun _=>by kernel_rfl) ⟨_,rfl⟩ ⟨_,rfl⟩ ?F
 case F=>
  intro w mg fa h KX G hmg
  refine' K71.all_mk (l:=PySem.Challenge.rw_greywait_k71_whole_less_is_never_later) (w:=w) KX G hmg ?a0 ?l0 ?c0 ?k0 ?a1 ?l1 ?c1 ?k1 ?a2 ?l2 ?c2 ?k2 ?a3 ?l3 ?c3 ?k3 ?a4 ?l4 ?c4 ?k4 ?a5 ?l5 ?c5 ?k5 ?a6 ?l6 ?c6 ?k6 ?a7 ?l7 ?c7 ?k7 ?a8 ?l8 ?c8 ?k8 ?a9 ?l9 ?c9 ?k9 ?a10 ?l10 ?c10 ?k10 ?a11 ?l11 ?c11 ?k11 ?a12 ?l12 ?c12 ?k12 ?a13 ?l13 ?c13 ?k13 ?a14 ?l14 ?c14 ?k14 ?a15 ?l15 ?c15 ?k15 ?a16 ?l16 ?c16 ?k16 ?a17 ?l17 ?c17 ?k17 ?a18 ?l18 ?c18 ?k18 ?a19 ?l19 ?c19 ?k19 ?a20 ?l20 ?c20 ?k20 ?t20 ?u20 ?a21 ?l21 ?c21 ?k21 ?a22 ?l22 ?c22 ?k22 ?a23 ?l23 ?c23 ?k23 ?a24 ?l24 ?c24 ?k24 ?a25 ?l25 ?c25 ?k25 ?a26 ?l26 ?c26 ?k26 ?a27 ?l27 ?c27 ?k27 ?a28 ?l28 ?c28 ?k28 ?a29 ?l29 ?c29 ?k29 ?a30 ?l30 ?c30 ?k30 ?a31 ?l31 ?c31 ?k31 ?a32 ?l32 ?c32 ?k32 ?a33 ?l33 ?c33 ?k33 ?z_all ?z_any ?z_bool ?z_dict ?z_enumerate ?z_int ?z_isinstance ?z_len ?z_max ?z_min ?z_range ?z_set ?z_sorted ?zcy ?zcd ?zck ?tn
  (case a0=>k_is)
  (case l0=>k_is)
  (case c0=>k_is)
  (case k0=>k_is)
  (case a1=>k_is)
  (case l1=>k_is)
  (case c1=>k_is)
  (case k1=>k_is)
  (case a2=>k_is)
  (case l2=>k_is)
  (case c2=>k_is)
  (case k2=>k_is)
  (case a3=>k_is)
  (case l3=>k_is)
  (case c3=>k_is)
  (case k3=>k_is)
  (case a4=>k_is)
  (case l4=>k_is)
  (case c4=>k_is)
  (case k4=>k_is)
  (case a5=>k_is)
  (case l5=>k_is)
  (case c5=>k_is)
  (case k5=>k_is)
  (case a6=>k_is)
  (case l6=>k_is)
  (case c6=>k_is)
  (case k6=>k_is)
  (case a7=>k_is)
  (case l7=>k_is)
  (case c7=>k_is)
  (case k7=>k_is)
  (case a8=>k_is)
  (case l8=>k_is)
  (case c8=>k_is)
  (case k8=>k_is)
  (case a9=>k_is)
  (case l9=>k_is)
  (case c9=>k_is)
  (case k9=>k_is)
  (case a10=>k_is)
  (case l10=>k_is)
  (case c10=>k_is)
  (case k10=>k_is)
  (case a11=>k_is)
  (case l11=>k_is)
  (case c11=>k_is)
  (case k11=>k_is)
  (case a12=>k_is)
  (case l12=>k_is)
  (case c12=>k_is)
  (case k12=>k_is)
  (case a13=>k_is)
  (case l13=>k_is)
  (case c13=>k_is)
  (case k13=>k_is)
  (case a14=>k_is)
  (case l14=>k_is)
  (case c14=>k_is)
  (case k14=>k_is)
  (case a15=>k_is)
  (case l15=>k_is)
  (case c15=>k_is)
  (case k15=>k_is)
  (case a16=>k_is)
  (case l16=>k_is)
  (case c16=>k_is)
  (case k16=>k_is)
  (case a17=>k_is)
  (case l17=>k_is)
  (case c17=>k_is)
  (case k17=>k_is)
  (case a18=>k_is)
  (case l18=>k_is)
  (case c18=>k_is)
  (case k18=>k_is)
  (case a19=>k_is)
  (case l19=>k_is)
  (case c19=>k_is)
  (case k19=>k_is)
  (case a20=>k_is)
  (case l20=>k_is)
  (case c20=>k_is)
  (case k20=>k_is)
  (case t20=>k_is)
  (case u20=>rfl)
  (case a21=>k_is)
  (case l21=>k_is)
  (case c21=>k_is)
  (case k21=>k_is)
  (case a22=>k_is)
  (case l22=>k_is)
  (case c22=>k_is)
  (case k22=>k_is)
  (case a23=>k_is)
  (case l23=>k_is)
  (case c23=>k_is)
  (case k23=>k_is)
  (case a24=>k_is)
  (case l24=>k_is)
  (case c24=>k_is)
  (case k24=>k_is)
  (case a25=>k_is)
  (case l25=>k_is)
  (case c25=>k_is)
  (case k25=>k_is)
  (case a26=>k_is)
  (case l26=>k_is)
  (case c26=>k_is)
  (case k26=>k_is)
  (case a27=>k_is)
  (case l27=>k_is)
  (case c27=>k_is)
  (case k27=>k_is)
  (case a28=>k_is)
  (case l28=>k_is)
  (case c28=>k_is)
  (case k28=>k_is)
  (case a29=>k_is)
  (case l29=>k_is)
  (case c29=>k_is)
  (case k29=>k_is)
  (case a30=>k_is)
  (case l30=>k_is)
  (case c30=>k_is)
  (case k30=>k_is)
  (case a31=>k_is)
  (case l31=>k_is)
  (case c31=>k_is)
  (case k31=>k_is)
  (case a32=>k_is)
  (case l32=>k_is)
  (case c32=>k_is)
  (case k32=>k_is)
  (case a33=>k_is)
  (case l33=>k_is)
  (case c33=>k_is)
  (case k33=>k_is)
  (case z_all=>k_is)
  (case z_any=>k_is)
  (case z_bool=>k_is)
  (case z_dict=>k_is)
  (case z_enumerate=>k_is)
  (case z_int=>k_is)
  (case z_isinstance=>k_is)
  (case z_len=>k_is)
  (case z_max=>k_is)
  (case z_min=>k_is)
  (case z_range=>k_is)
  (case z_set=>k_is)
  (case z_sorted=>k_is)
  (case tn=>kernel_rfl)
  (case zcy=>kit_is)
  (case zcd=>kit_is)
  (case zck=>kit_is)
