import PyProof.Rows.All
import Wide.All
import OpenK.AllK
import Wide.FinOn
import Lean
import PyProof.EqAt
import PyProof.EqKinds
import PyProof.TupleCall
import PyProof.ZipIter
import PyProof.EnumMake
import PyProof.EnumFor
import PyProof.DictIter
import PyProof.FactsAll.set
import KE.KDictSum
import PyProof.AttrMissSeq
import PyProof.DictRoadsH
import KE.KDictOf
import PyProof.DictWalks
import KE.KDictList
import PyProof.Rows.TupDisplay
import PyProof.P3Eq
import PySem.Challenge.RW_leftin_k07_answers_by_hand
set_option Elab.async false
set_option linter.all false
set_option maxRecDepth 100000
namespace L2
open PySem PySem.Spec PyProof.Rows
noncomputable abbrev Key:=Sum Int Str
noncomputable def zv3:Key->Value->Bool
 |.inl k,v=>Value.isInt k v
 |.inr x,v=>Value.isStrOf x v
noncomputable def qar (w:World):Key->Int
 |.inl k=>hashInt k
 |.inr x=>hashStr w x
theorem zag:∀ {k:Key}{v:Value},zv3 k v=true->(∃ i t,k=Sum.inl i/\v=Value.int i t)\/(∃ x t,k=Sum.inr x/\v=Value.str x t)
 |.inl i,v,h=>by
  obtain ⟨t,e⟩:=Value.isInt_shape (k:=i) (v:=v) h;exact .inl ⟨i,t,rfl,e⟩
 |.inr x,v,h=>by
  obtain ⟨t,e⟩:=Value.isStrOf_shape (x:=x) (v:=v) h;exact .inr ⟨x,t,rfl,e⟩
theorem zy0 (i:Int) (t:Tok):zv3 (.inl i) (.int i t)=true:=by simp [zv3,Value.isInt]
theorem zzb (x:Str) (t:Tok):zv3 (.inr x) (.str x t)=true:=by simp [zv3,Value.isStrOf]
theorem z4h (a b:Int):decide ((Sum.inl a:Key)=Sum.inl b)=(a==b):=by
 by_cases e:a=b
 ·subst e;simp
 ·have h:¬ (Sum.inl a:Key)=Sum.inl b:=fun q=>e (Sum.inl.inj q);rw [decide_eq_false h];exact (beq_eq_false_iff_ne.mpr e).symm
theorem z43 (a b:Str):decide ((Sum.inr a:Key)=Sum.inr b)=decide (a=b):=by
 by_cases e:a=b
 ·subst e;simp
 ·have h:¬ (Sum.inr a:Key)=Sum.inr b:=fun q=>e (Sum.inr.inj q);rw [decide_eq_false h,decide_eq_false e]
theorem z44 (a:Int) (b:Str):decide ((Sum.inl a:Key)=Sum.inr b)=false:=decide_eq_false (fun q=>nomatch q)
theorem z4u (a:Str) (b:Int):decide ((Sum.inr a:Key)=Sum.inl b)=false:=decide_eq_false (fun q=>nomatch q)
noncomputable def kh (prog:Program) (w:World):PySem.KeyKind prog w Key where
 is:=zv3
 hash:=qar w
 inj:=fun v a b ha hb=>by
  rcases zag ha with ⟨i,t,rfl,rfl⟩|⟨x,t,rfl,rfl⟩
  ·rcases zag hb with ⟨j,u,rfl,e⟩|⟨y,u,rfl,e⟩
   ·injection e with e1 _;rw [e1]
   ·exact nomatch e
  ·rcases zag hb with ⟨j,u,rfl,e⟩|⟨y,u,rfl,e⟩
   ·exact nomatch e
   ·injection e with e1 _;rw [e1]
 byValue:=fun k v h=>by
  rcases zag h with ⟨i,t,rfl,rfl⟩|⟨x,t,rfl,rfl⟩<;>rfl
 pyHash:=fun hv h=>by
  rcases zag hv with ⟨i,t,rfl,rfl⟩|⟨x,t,rfl,rfl⟩
  ·exact wpAny_pyHash_int h
  ·exact wpAny_pyHash_str h
 eqBool:=fun hu hv h=>by
  rcases zag hu with ⟨i,t,rfl,rfl⟩|⟨x,t,rfl,rfl⟩
  ·rcases zag hv with ⟨j,u,rfl,rfl⟩|⟨y,u,rfl,rfl⟩
   ·rw [z4h] at h;exact wpAny_eqBool_int h
   ·rw [z44] at h;exact SeqAt.EqAt.int_str i t y u _ _ _ _ h
  ·rcases zag hv with ⟨j,u,rfl,rfl⟩|⟨y,u,rfl,rfl⟩
   ·rw [z4u] at h;exact SeqAt.EqAt.str_int x t j u _ _ _ _ h
   ·rw [z43] at h;exact wpAny_eqBool_str h
 «strs»:=fun k x t v h=>by
  rcases zag h with ⟨i,u,rfl,e⟩|⟨y,u,rfl,e⟩
  ·exact nomatch e
  ·injection e with e1 _
   subst e1;cases v<;>rfl
theorem ztp (prog:Program) (w:World) (i:Int) (t:Tok):(kh prog w).is (.inl i) (.int i t)=true:=zy0 i t
theorem ztl (prog:Program) (w:World) (x:Str) (t:Tok):(kh prog w).is (.inr x) (.str x t)=true:=zzb x t
inductive V where
 |non|bl (b:Bool)|int (i:Int)|str (x:Str)|byt (b:Array UInt8)|flt (b:UInt64)|ref (a:Addr)|ty (n:String)
 deriving DecidableEq
noncomputable def RelV:V->Value->Prop
 |.non,u=>u=Value.none
 |.bl b,u=>u=Value.bool b
 |.int i,u=>∃ t,u=Value.int i t
 |.str x,u=>∃ t,u=Value.str x t
 |.byt b,u=>∃ t,u=Value.bytes b t
 |.flt b,u=>∃ t,u=Value.float b t
 |.ref a,u=>u=Value.ref a
 |.ty n,u=>u=Value.type n
noncomputable abbrev Vals:List V->List Value->Prop:=Paired RelV
theorem Vals.length {xs:List V}{us:List Value} (r:Vals xs us):xs.length=us.length:=Paired.length r
theorem Vals.get:∀ {xs:List V}{us:List Value}{i:Nat}{x:V},Vals xs us->xs[i]?=some x->∃ u,us[i]?=some u/\RelV x u
 |_,_,_,_,.nil,e=>by simp at e
 |_,_,0,_,.cons r _,e=>by simp at e;subst e;exact ⟨_,rfl,r⟩
 |_,_,i+1,x,.cons _ t,e=>by
  obtain ⟨u,h1,h2⟩:=Vals.get (i:=i) (x:=x) t (by simpa using e);exact ⟨u,by simpa using h1,h2⟩
theorem Vals.set {x:V}{u:Value} (r:RelV x u):∀ {xs:List V}{us:List Value} (i:Nat),Vals xs us->Vals (xs.set i x) (us.set i u)
 |_,_,_,.nil=>.nil
 |_,_,0,.cons _ t=>.cons r t
 |_,_,i+1,.cons q t=>.cons q (Vals.set r i t)
theorem Vals.append:∀ {xs ys:List V}{us ws:List Value},Vals xs us->Vals ys ws->Vals (xs++ys) (us++ws)
 |_,_,_,_,.nil,s=>s
 |_,_,_,_,.cons r t,s=>.cons r (Vals.append t s)
theorem Vals.take:∀ {xs:List V}{us:List Value} (n:Nat),Vals xs us->Vals (xs.take n) (us.take n)
 |_,_,0,_=>.nil
 |_,_,_+1,.nil=>.nil
 |_,_,n+1,.cons r t=>.cons r (Vals.take n t)
theorem Vals.drop:∀ {xs:List V}{us:List Value} (n:Nat),Vals xs us->Vals (xs.drop n) (us.drop n)
 |_,_,0,r=>r
 |_,_,_+1,.nil=>.nil
 |_,_,n+1,.cons _ t=>Vals.drop n t
theorem Vals.none_of:∀ {xs:List V}{us:List Value}{i:Nat},Vals xs us->xs[i]?=none->us[i]?=none:=fun {xs us i} r e=>by
 have h1:=r.length;have h2:xs.length<=i:=List.getElem?_eq_none_iff.mp e;exact List.getElem?_eq_none_iff.mpr (by lia)
noncomputable def zs5:Option V->Option Value->Prop
 |some v,some u=>RelV v u
 |none,none=>True
 |_,_=>False
noncomputable def KV {κ:Type}:List (κ×V)->List (κ×Value)->Prop:=Paired fun (p:κ×V) (q:κ×Value)=>p.1=q.1/\RelV p.2 q.2
noncomputable def kV:Key->V
 |.inl i=>.int i
 |.inr x=>.str x
inductive HO where
 |lst (xs:List V)
 |tup (xs:List V)
 |dK (kvs:List (Key×V))|dT (kvs:List (List Key×V))
 |set (S:Int->Bool) (n:Nat)
 |ins (C dx:Addr) (fs:List (Str×V))
 |own (x:Addr)
 |xd (fs:List (Str×V))
 |met (f x:Addr)
 |rng (lo hi:Int)
 |frz (o:Obj) (u:HO)
 |tbl (ps:Array Value)
 |ext (φ:Heap->Prop)
noncomputable abbrev Hp:=Addr->Option HO
noncomputable def upd (H:Hp) (a:Addr) (o:HO):Hp:=fun b=>if b=a then some o else H b
theorem zb {H:Hp}{a:Addr}{o:HO}:upd H a o a=some o:=by unfold upd;rw [if_pos rfl]
theorem qz {H:Hp}{a b:Addr}{o:HO} (h:b≠a):upd H a o b=H b:=by unfold upd;rw [if_neg h]
theorem z22 {H:Hp}{a b:Addr}{o u:HO} (h:H a=some o) (h':H b=some u) (d:o≠u):a≠b:=by
 intro e;subst e;rw [h] at h';exact d (Option.some.inj h')
theorem zj {H:Hp}{a b:Addr}{o:HO} (h:H a=some o) (h':H b=none):a≠b:=by
 intro e;subst e;rw [h] at h';cases h'
section
variable (P:Program) (w:World)
noncomputable def wk (H:Hp) (h:Heap) (a:Addr):HO->Prop
 |.lst xs=>xs.length<=sizeLine/\∃ (its:List Value) (n:Nat),Vals xs its/\h.get? a=some { cls:=.type "list",data:=.seq its.toArray n }
 |.tup xs=>xs.length<=sizeLine/\∃ its:List Value,Vals xs its/\IsTup h a its.toArray
 |.dK kvs=>kvs.length<=sizeLine/\(a==sysModules)=false/\∃ vs,KV kvs vs/\h.DictOf (kh P w) a vs
 |.dT kvs=>kvs.length<=sizeLine/\(a==sysModules)=false/\∃ xs:List (List Key×Addr×Value),
   Paired (fun (p:List Key×V) (q:List Key×Addr×Value)=>p.1=q.1/\H q.2.1=some (.tup (p.1.map kV))/\RelV p.2 q.2.2) kvs xs /\
   ∃ o es ep,h.get? a=some o/\o.ExactDict/\o.data=.dict es ep/\es.toList=xs.map (entryOfKey (tupleKind (kh P w)))/\(xs.map (·.1)).Nodup
 |.set S n=>h.SetOf (intKind P w) a S n
 |.ins C dx fs=>H dx=some (.own a)/\fs.length<=1000/\dx≠a/\h.get? a=some (PySem.W.instObj C dx) /\
   ∃ mA,h.Ns1 dx mA/\(∀ f,zs5 (fs.lookup f) (mA f))/\PySem.Within mA (fs.map (·.1))
 |.own _=>∃ o,h.get? a=some o
 |.xd fs=>∃ mA,h.Ns1 a mA/\∀ f,zs5 (fs.lookup f) (mA f)
 |.rng lo hi=>∃ t u v,h.get? a=some { cls:=.type "range",data:=.fields #[.int lo t,.int hi u,.int 1 v] }
 |.frz o u=>h.get? a=some o/\wk H h a u
 |.tbl ps=>h.get? a=some { cls:=.none,data:=.fields ps }
 |.met f x=>h.get? a=some (PySem.W.methodObj (.ref f) (.ref x))
 |.ext φ=>φ h/\(∃ o,h.get? a=some o)/\∀ h1 h2:Heap,φ h1->(∀ o,h1.get? a=some o->h2.get? a=some o)->φ h2
noncomputable def HOk (H:Hp) (h:Heap):Prop:=∀ a o,H a=some o->wk P w H h a o
end
section
variable {P:Program}{w:World}{H H':Hp}{h h':Heap}{a:Addr}{o:HO}
theorem wk.lt (x:wk P w H h a o):a<h.objs.size:=by
 cases o with
 |lst xs=>obtain ⟨_,_,_,_,e⟩:=x;exact Heap.lt_size e
 |tup xs=>obtain ⟨_,_,_,p⟩:=x;exact p.lt
 |dK kvs=>obtain ⟨_,_,_,_,o,_,_,e,_⟩:=x;exact Heap.lt_size e
 |dT kvs=>obtain ⟨_,_,_,_,o,_,_,e,_⟩:=x;exact Heap.lt_size e
 |set S n=>obtain ⟨o,_,_,_,e,_⟩:=x;exact Heap.lt_size e
 |ins C dx fs=>obtain ⟨_,_,_,e,_⟩:=x;exact Heap.lt_size e
 |own y=>obtain ⟨_,e⟩:=x;exact Heap.lt_size e
 |xd fs=>obtain ⟨_,⟨_,_,_,e,_⟩,_⟩:=x;exact Heap.lt_size e
 |rng lo hi=>obtain ⟨_,_,_,e⟩:=x;exact Heap.lt_size e
 |frz ob u=>obtain ⟨e,_⟩:=x;exact Heap.lt_size e
 |tbl ps=>exact Heap.lt_size (show h.get? a=some _ from x)
 |met f y=>exact Heap.lt_size (show h.get? a=some _ from x)
 |ext φ=>obtain ⟨_,⟨_,e⟩,_⟩:=x;exact Heap.lt_size e
theorem Paired.mapP {α β:Type}{F G:α->β->Prop}:∀ {l₁:List α}{l₂:List β},Paired F l₁ l₂->(∀ a b,F a b->G a b)->Paired G l₁ l₂
 |_,_,.nil,_=>.nil
 |_,_,.cons r t,f=>.cons (f _ _ r) (Paired.mapP t f)
theorem wk.stay (x:wk P w H h a o) (k:∀ b u,(b=a\/H b=some (.own a))->h.get? b=some u->h'.get? b=some u)
  (ho:∀ b,H b=some (.own a)->H' b=some (.own a)) (ht:∀ b xs,H b=some (.tup xs)->H' b=some (.tup xs)):wk P w H' h' a o:=by
 induction o with
 |lst xs=>obtain ⟨z,its,n,r,e⟩:=x;exact ⟨z,its,n,r,k _ _ (.inl rfl) e⟩
 |tup xs=>obtain ⟨z,its,r,ob,e,c⟩:=x;exact ⟨z,its,r,ob,k _ _ (.inl rfl) e,c⟩
 |dK kvs=>obtain ⟨z,y,vs,r,ob,es,ep,e,c⟩:=x;exact ⟨z,y,vs,r,ob,es,ep,k _ _ (.inl rfl) e,c⟩
 |dT kvs =>
  obtain ⟨z,y,xs,r,ob,es,ep,e,c⟩:=x;exact ⟨z,y,xs,Paired.mapP r fun p q z=>⟨z.1,ht _ _ z.2.1,z.2.2⟩,ob,es,ep,k _ _ (.inl rfl) e,c⟩
 |set S n=>obtain ⟨ob,es,ep,t,e,c⟩:=x;exact ⟨ob,es,ep,t,k _ _ (.inl rfl) e,c⟩
 |ins C dx fs =>
  obtain ⟨d,z,ne,e,mA,⟨od,es,ep,e2,c⟩,r⟩:=x;exact ⟨ho _ d,z,ne,k _ _ (.inl rfl) e,mA,⟨od,es,ep,k _ _ (.inr d) e2,c⟩,r⟩
 |own y=>obtain ⟨ob,e⟩:=x;exact ⟨ob,k _ _ (.inl rfl) e⟩
 |xd fs=>obtain ⟨mA,⟨od,es,ep,e,c⟩,r⟩:=x;exact ⟨mA,⟨od,es,ep,k _ _ (.inl rfl) e,c⟩,r⟩
 |rng lo hi=>obtain ⟨t,u,v,e⟩:=x;exact ⟨t,u,v,k _ _ (.inl rfl) e⟩
 |frz ob u ih=>obtain ⟨e,q⟩:=x;exact ⟨k _ _ (.inl rfl) e,ih q⟩
 |tbl ps =>
  have e:h.get? a=some { cls:=.none,data:=.fields ps }:=x;show h'.get? a=some { cls:=.none,data:=.fields ps }
  exact k a _ (.inl rfl) e
 |met f y =>
  have e:h.get? a=some (PySem.W.methodObj (.ref f) (.ref y)):=x;show h'.get? a=some (PySem.W.methodObj (.ref f) (.ref y))
  exact k a _ (.inl rfl) e
 |ext φ=>obtain ⟨p,⟨o,e⟩,st⟩:=x;exact ⟨st _ _ p fun o q=>k _ _ (.inl rfl) q,⟨o,k _ _ (.inl rfl) e⟩,st⟩
theorem HOk.lt (x:HOk P w H h) (e:H a=some o):a<h.objs.size:=(x a o e).lt
theorem HOk.fresh (x:HOk P w H h) (e:h.objs.size<=a):H a=none:=by
 cases q:H a with
 |none=>rfl
 |some u=>exact absurd (Nat.lt_of_lt_of_le (x.lt q) e) (Nat.lt_irrefl _)
theorem HOk.kept (x:HOk P w H h) (k:∀ b u,h.get? b=some u->h'.get? b=some u):HOk P w H h':=fun a o e =>
 (x a o e).stay (fun b u _ q=>k b u q) (fun _ q=>q) fun _ _ q=>q
theorem HOk.laid (x:HOk P w H h) (k:∀ b u,h.get? b=some u->h'.get? b=some u) (hp:h.objs.size<=a) (new:wk P w (upd H a o) h' a o):HOk P w (upd H a o) h':=fun b u e=>by
 have hn:=x.fresh hp;by_cases hb:b=a
 ·subst hb;rw [zb] at e;cases e;exact new
 ·rw [qz hb] at e;exact (x b u e).stay (fun c v _ q=>k c v q) (fun c q=>by rw [qz (zj q hn)];exact q) fun c xs q=>by rw [qz (zj q hn)];exact q
end
noncomputable def Rd (H:Hp) (a:Addr) (u:HO):Prop:=H a=some u\/∃ o,H a=some (.frz o u)
theorem Rd.ok {P:Program}{w:World}{H:Hp}{h:Heap}{a:Addr}{u:HO} (r:Rd H a u) (x:HOk P w H h):wk P w H h a u:=by
 rcases r with r|⟨o,r⟩
 ·exact x a u r
 ·obtain ⟨_,q⟩:=x a _ r;exact q
noncomputable def Mut:Option HO->Prop
 |some (.lst _)=>True
 |some (.dK _)=>True
 |some (.dT _)=>True
 |some (.set _ _)=>True
 |some (.ins _ _ _)=>True
 |some (.ext _)=>True
 |_=>False
section
variable {P:Program}{w:World}{H:Hp}{h h':Heap}{x e:Addr}{o':HO}
theorem HOk.write (ok:HOk P w H h) (mu:Mut (H x)) (he:e=x\/H e=some (.own x)) (k:∀ b u,b≠e->h.get? b=some u->h'.get? b=some u) (heo:∃ u,h'.get? e=some u)
  (new:wk P w (upd H x o') h' x o'):HOk P w (upd H x o') h':=fun b u q=>by
 have nown:∀ c y,H c=some (.own y)->c≠x:=fun c y r z=>by subst z;rw [r] at mu;exact mu
 have ntup:∀ c xs,H c=some (.tup xs)->c≠x:=fun c xs r z=>by subst z;rw [r] at mu;exact mu
 by_cases hb:b=x
 ·subst hb;rw [zb] at q;cases q;exact new
 ·rw [qz hb] at q;by_cases hbe:b=e
  ·have q':H b=some (.own x):=by
    rcases he with z|z
    ·exact absurd (hbe.trans z) hb
    ·rw [hbe];exact z
   rw [q] at q';cases q';obtain ⟨v,hv⟩:=heo;exact ⟨v,by rw [hbe];exact hv⟩
  ·refine (ok b u q).stay (fun c v hc r=>k c v ?_ r) (fun c r=>by rw [qz (nown c b r)];exact r) fun c xs r=>by rw [qz (ntup c xs r)];exact r
   rcases hc with rfl|hc
   ·exact hbe
   ·rintro rfl;rcases he with z|z
    ·exact nown c b hc z
    ·rw [hc] at z;cases z;exact hb rfl
end
structure Un (fs ex:List Addr) (H H':Hp) (h h':Heap):Prop where
 keep:∀ b o,h.get? b=some o->H b=none->b∉fs->b∉ex->h'.get? b=some o
 slot:∀ b o,h.get? b=some o->H b=none->b∈fs->b∉ex->∃ sl,h'.get? b=some { o with slots:=sl }
 free:∀ b o,h.get? b=some o->H b=none->b∉ex->H' b=none
 there:∀ b o,h.get? b=some o->b∉ex->∃ o',h'.get? b=some o'
 tups:∀ b xs,H b=some (.tup xs)->H' b=some (.tup xs)
 frzs:∀ b o u,H b=some (.frz o u)->H' b=some (.frz o u)
 tbls:∀ b ps,H b=some (.tbl ps)->∃ more,H' b=some (.tbl (ps++more))
section
variable {fs fs' ex ex':List Addr}{H H1 H2:Hp}{h h1 h2 h':Heap}{a x e:Addr}{o:HO}
theorem Un.any (u:Un fs ex H H1 h h1) {b:Addr}{ob:Obj} (q:h.get? b=some ob) (n:H b=none) (hx:b∉ex):∃ sl,h1.get? b=some { ob with slots:=sl }:=by
 by_cases hb:b∈fs
 ·exact u.slot b ob q n hb hx
 ·exact ⟨ob.slots,u.keep b ob q n hb hx⟩
theorem Un.kept (k:∀ b u,h.get? b=some u->h'.get? b=some u):Un fs ex H H h h' :=
 ⟨fun b ob q _ _ _=>k b ob q,fun b ob q _ _ _=>⟨ob.slots,k b ob q⟩,fun _ _ _ n _=>n,fun b ob q _=>⟨ob,k b ob q⟩,fun _ _ q=>q,fun _ _ _ q=>q,fun _ ps q=>⟨#[],by rw [q];simp⟩⟩
theorem Un.refl:Un fs ex H H h h:=Un.kept fun _ _ q=>q
theorem Un.laid (k:∀ b u,h.get? b=some u->h'.get? b=some u) (hp:h.objs.size<=a) (hn:H a=none):Un fs ex H (upd H a o) h h' where
 keep:=fun b u q _ _ _=>k b u q
 slot:=fun b u q _ _ _=>⟨u.slots,k b u q⟩
 free:=fun b u q n _=>by rw [qz (Nat.ne_of_lt (Nat.lt_of_lt_of_le (Heap.lt_size q) hp))];exact n
 there:=fun b u q _=>⟨u,k b u q⟩
 tups:=fun b xs q=>by rw [qz (zj q hn)];exact q
 frzs:=fun b u xs q=>by rw [qz (zj q hn)];exact q
 tbls:=fun b ps q=>⟨#[],by rw [qz (zj q hn),q];simp⟩
theorem Un.write (mu:Mut (H x)) (he:e=x\/H e=some (.own x)) (k:∀ b u,b≠e->h.get? b=some u->h'.get? b=some u) (heo:∃ u,h'.get? e=some u):Un fs ex H (upd H x o) h h':=by
 have hx:∀ b,H b=none->b≠x:=fun b n z=>by subst z;rw [n] at mu;exact mu
 have hb:∀ b,H b=none->b≠e:=fun b n z=>by
  subst z;rcases he with r|r
  ·exact hx b n r
  ·rw [n] at r;cases r
 have hm:∀ b u,H b=some u->¬ Mut (some u)->b≠x:=fun b u q nm z=>by subst z;rw [q] at mu;exact nm mu
 refine ⟨fun b u q n _ _=>k b u (hb b n) q,fun b u q n _ _=>⟨u.slots,k b u (hb b n) q⟩,fun b u q n _=>by rw [qz (hx b n)];exact n,fun b u q _=>?_,
  fun b xs q=>by rw [qz (hm b _ q fun z=>z)];exact q,fun b u xs q=>by rw [qz (hm b _ q fun z=>z)];exact q,fun b ps q=>⟨#[],by rw [qz (hm b _ q fun z=>z),q];simp⟩⟩
 by_cases hbe:b=e
 ·subst hbe;exact heo
 ·exact ⟨u,k b u hbe q⟩
end
noncomputable def trk (h:Heap) (H:Hp):List Addr:=(List.range h.objs.size).filter fun a=>(H a).isSome
noncomputable def z0f (h:Heap) (H:Hp):Heap:=PySem.W.hideAll h (trk h H)
theorem zzo (h:Heap) (H:Hp):(z0f h H).objs.size=h.objs.size:=PySem.W.hideAll_size _ _
theorem zz0 {h:Heap}{H:Hp}{b:Addr}{o:Obj} (e:h.get? b=some o) (n:H b=none):(z0f h H).get? b=some o :=
 PySem.W.hideAll_get _ e fun hm=>by
  have q:(H b).isSome=true:=(List.mem_filter.mp hm).2;rw [n] at q;simp at q
theorem z2q {h:Heap}{H:Hp}{b:Addr}{o:Obj} (e:(z0f h H).get? b=some o):h.get? b=some o/\H b=none:=by
 have e':h.get? b=some o:=PySem.W.of_hideAll (trk h H) e;refine ⟨e',?_⟩;cases q:H b with
 |none=>rfl
 |some x =>
  have hm:b∈trk h H:=List.mem_filter.mpr ⟨List.mem_range.mpr (Heap.lt_size e'),by simp [q]⟩;have z:(z0f h H).get? b=none:=PySem.W.hideAll_none (trk h H) hm;rw [z] at e;cases e
structure Mod (K:PySem.W.Frag) (mg:Str->Option Value) (base:Heap):Prop where
 kin:K.In base
 glob:base.Ns mainGlobals mg
 blt:∃ mb,base.Ns builtinsNs mb/\∀ x:Str,x≠"__name__"->mb x=bootBuiltins x
 nolimit:base.NoLimit
structure Cx where
 prog:Program
 w:World
 K:PySem.W.Frag
 mg:Str->Option Value
 base:Heap
 A:Around
 N:List Str
 s₀:Shared
 H₀:Hp
 env:Env
 outer:List Env
 stack:List Env
 ex:List Addr
 fn:Str->Bool
 calm:Bool
 pn:List (Addr×Obj)
 xe:Value->Shared->Prop
noncomputable def frs (l:List Env):List Addr:=l.filterMap (·.frame)
noncomputable abbrev Cx.fs (X:Cx):List Addr:=frs X.outer
noncomputable def Vis (sc:Scope) (x:Str):Prop:=sc.names.lookup x=some .local\/sc.names.lookup x=some .cell\/sc.names.lookup x=some .free
noncomputable def Loc (sc:Scope) (x:Str):Prop:=sc.names.lookup x=some .local\/sc.names.lookup x=some .cell
noncomputable def Look (env:Env) (h:Heap) (m:Str->Option Value) (x:Str) (u:Value):Prop :=
 (env.kindOf x=some .local/\m x=some u)\/((env.kindOf x=some .cell\/env.kindOf x=some .free)/\∃ c,env.cells.lookup x=some c/\h.IsCell c (some u))
structure Cx.Ok (X:Cx):Prop where
 mod:Mod X.K X.mg X.base
 kind:X.env.scope.kind=.function
 glob:X.env.globals=mainGlobals
 blt:X.env.builtins=builtinsNs
 above:X.s₀.heap.objs.size<=X.env.locals
 inj:∀ x y c,X.env.cells.lookup x=some c->X.env.cells.lookup y=some c->x=y
 has:∀ x,(X.env.kindOf x=some .cell\/X.env.kindOf x=some .free)->∃ c,X.env.cells.lookup x=some c
 cab:∀ x c,X.fn x=true->X.env.cells.lookup x=some c->X.s₀.heap.objs.size<=c
 hd:X.calm=true->X.A.handled=none
 frames:X.A.frames=some X.stack
 stk:X.stack=X.outer\/(X.stack=X.env::X.outer/\X.env.frame=some X.env.locals)
 exf:∀ b∈X.ex,b≠X.env.locals/\∀ x c,X.env.cells.lookup x=some c->c≠b
 bs:∀ b o,X.base.get? b=some o->X.s₀.heap.get? b=some o/\X.H₀ b=none
 bsz:X.base.objs.size<=X.s₀.heap.objs.size
 noex:∀ b o,X.base.get? b=some o->b∉X.ex
 exfs:∀ b∈X.ex,b∉X.fs
 funs:X.s₀.heap.FunFrames X.base X.outer
 frf:∀ b∈X.fs,X.H₀ b=none
structure Inv (X:Cx) (pins:List (Addr×Obj)) (σ:List (Option V)) (H:Hp) (s:Shared):Prop where
 ok:X.Ok
 os:s.os=X.s₀.os
 bare:AllBare s.gens
 base:Un X.fs X.ex X.H₀ H X.s₀.heap s.heap
 loc:∃ m,s.heap.Ns X.env.locals m/\∀ (i:Nat) (x:Str) (v:V),X.N[i]?=some x->σ[i]?=some (some v)->Vis X.env.scope x->∃ u,RelV v u/\Look X.env s.heap m x u
 cell:∀ x c,X.env.cells.lookup x=some c->∃ v,s.heap.IsCell c v
 free:H X.env.locals=none
 freeC:∀ x c,X.env.cells.lookup x=some c->H c=none
 pin:∀ p∈X.pn++pins,s.heap.get? p.1=some p.2/\H p.1=none/\p.1≠X.env.locals/\p.1∉X.fs/\∀ v,p.2.data≠.cell v
 hok:HOk X.prog X.w H s.heap
 len:σ.length=X.N.length
section
variable {X:Cx}{pins:List (Addr×Obj)}{σ:List (Option V)}{H H':Hp}{s:Shared}{h':Heap}
theorem Cx.Ok.nofr (ok:X.Ok) {b:Addr}{o:Obj} (e:X.base.get? b=some o):b∉X.fs:=fun hb=>by
 have:=(ok.funs.mem hb).1;rw [e] at this;cases this
theorem Inv.bs (I:Inv X pins σ H s):∀ b o,X.base.get? b=some o->s.heap.get? b=some o/\H b=none:=fun b o e =>
 ⟨I.base.keep b o (I.ok.bs b o e).1 (I.ok.bs b o e).2 (I.ok.nofr e) (I.ok.noex b o e),I.base.free b o (I.ok.bs b o e).1 (I.ok.bs b o e).2 (I.ok.noex b o e)⟩
theorem Inv.bk (I:Inv X pins σ H s):∀ b o,X.base.get? b=some o->s.heap.get? b=some o:=fun b o e=>(I.bs b o e).1
theorem Inv.mod (I:Inv X pins σ H s):Mod X.K X.mg X.base:=I.ok.mod
theorem Inv.kIn (I:Inv X pins σ H s):X.K.In s.heap:=I.ok.mod.kin.keeps I.bk
theorem Inv.lt (I:Inv X pins σ H s):X.env.locals<s.heap.objs.size:=let ⟨_,hn,_⟩:=I.loc;hn.lt
theorem Inv.sz (I:Inv X pins σ H s):X.s₀.heap.objs.size<=s.heap.objs.size:=Nat.le_trans I.ok.above (Nat.le_of_lt I.lt)
theorem Inv.nofs (I:Inv X pins σ H s) {a:Addr} (h:s.heap.objs.size<=a):a∉X.fs:=fun hb=>by
 obtain ⟨_,o,ho,_⟩:=I.ok.funs.mem hb;exact absurd (Nat.lt_of_lt_of_le (Heap.lt_size ho) (Nat.le_trans I.sz h)) (Nat.lt_irrefl _)
theorem Inv.cne (I:Inv X pins σ H s):∀ x c,X.env.cells.lookup x=some c->c≠X.env.locals:=fun x c e z=>by
 obtain ⟨v,o,ho,hd⟩:=I.cell x c e;obtain ⟨m,⟨o',es,ep,ho',hd',_⟩,_⟩:=I.loc;rw [z,ho'] at ho;cases ho;rw [hd'] at hd;cases hd
theorem Inv.funs (I:Inv X pins σ H s):s.heap.FunFrames X.base X.outer:=by
 have all:∀ (l:List Env),(∀ b∈frs l,b∈X.fs)->X.s₀.heap.FunFrames X.base l->s.heap.FunFrames X.base l:=by
  intro l;induction l with
  |nil=>intro _ _;trivial
  |cons env r ih =>
   intro hs hl;obtain ⟨hk,⟨L,o,hf,hn,ho,hd⟩,hr⟩:=hl;have hL:L∈X.fs:=hs L (by unfold frs;rw [List.filterMap_cons,hf];exact List.mem_cons_self);obtain ⟨sl,e⟩:=I.base.slot L o ho (I.ok.frf L hL) hL fun z=>I.ok.exfs L z hL;exact ⟨hk,⟨L,_,hf,hn,e,hd⟩,ih (fun b hb=>hs b (by unfold frs;rw [List.filterMap_cons,hf];exact List.mem_cons_of_mem _ hb)) hr⟩
 exact all X.outer (fun _ hb=>hb) I.ok.funs
theorem Inv.stack (I:Inv X pins σ H s):s.heap.FunFrames X.base X.stack:=by
 rcases I.ok.stk with e|⟨e,hf⟩
 ·rw [e];exact I.funs
 ·rw [e];obtain ⟨m,hn,_⟩:=I.loc;refine .cons (by rw [I.ok.kind];decide) hf hn ?_ I.funs;exact Heap.get?_none_of_le (Nat.le_trans I.ok.bsz I.ok.above)
theorem Inv.stkSub (I:Inv X pins σ H s):∀ b∈frs X.stack,b∈X.env.locals::X.fs:=fun b hb=>by
 rcases I.ok.stk with e|⟨e,hf⟩
 ·rw [e] at hb;exact List.mem_cons_of_mem _ hb
 ·rw [e] at hb;unfold frs at hb;rw [List.filterMap_cons,hf] at hb;exact hb
theorem Inv.stkFree (I:Inv X pins σ H s):∀ b∈frs X.stack,H b=none:=fun b hb=>by
 rcases List.mem_cons.mp (I.stkSub b hb) with e|hb
 ·rw [e];exact I.free
 ·obtain ⟨_,o,ho,_⟩:=I.ok.funs.mem hb;exact I.base.free b o ho (I.ok.frf b hb) fun z=>I.ok.exfs b z hb
theorem Inv.step {g':Array GenState}{t':Nat}{d':Drawn}{ch:List Addr} (I:Inv X pins σ H s)
  (hch:∀ b∈ch,(b∈X.ex\/X.s₀.heap.objs.size<=b)/\b≠X.env.locals/\(∀ x c,X.env.cells.lookup x=some c->c≠b)/\∀ p∈X.pn++pins,p.1≠b)
  (keep:∀ b o,b≠X.env.locals->b∉X.fs->b∉ch->s.heap.get? b=some o->H b=none->h'.get? b=some o)
  (slot:∀ b o,b≠X.env.locals->b∈X.fs->b∉ch->s.heap.get? b=some o->H b=none->∃ sl,h'.get? b=some { o with slots:=sl }) (free:∀ b o,b∉ch->s.heap.get? b=some o->H b=none->H' b=none)
  (there:∀ b o,b∉ch->s.heap.get? b=some o->∃ o',h'.get? b=some o')
  (tups:∀ b xs,H b=some (.tup xs)->H' b=some (.tup xs)) (frzs:∀ b o u,H b=some (.frz o u)->H' b=some (.frz o u)) (tbls:∀ b ps,H b=some (.tbl ps)->∃ more,H' b=some (.tbl (ps++more)))
  (ns:∀ m,s.heap.Ns X.env.locals m->h'.Ns X.env.locals m) (hok:HOk X.prog X.w H' h') (hg:AllBare g') :
  Inv X pins σ H' { s with heap:=h',gens:=g',drawn:=d',toks:=t' }:=by
 have neL:∀ b o,X.s₀.heap.get? b=some o->b≠X.env.locals:=fun b o e=>Nat.ne_of_lt (Nat.lt_of_lt_of_le (Heap.lt_size e) I.ok.above);have neC:∀ b o,X.s₀.heap.get? b=some o->b∉X.ex->b∉ch:=fun b o e hx hb=>by
  rcases (hch b hb).1 with z|z
  ·exact hx z
  ·exact absurd (Nat.lt_of_lt_of_le (Heap.lt_size e) z) (Nat.lt_irrefl _)
 have cellK:∀ x c,X.env.cells.lookup x=some c->∀ v,s.heap.IsCell c v->h'.IsCell c v:=fun x c e v ⟨o,ho,hd⟩=>by
  have nch:c∉ch:=fun z=>(hch c z).2.2.1 x c e rfl;by_cases hc:c∈X.fs
  ·obtain ⟨sl,q⟩:=slot c o (I.cne x c e) hc nch ho (I.freeC x c e);exact ⟨_,q,hd⟩
  ·exact ⟨o,keep c o (I.cne x c e) hc nch ho (I.freeC x c e),hd⟩
 refine ⟨I.ok,I.os,hg,⟨fun b o e n hb hx=>?_,fun b o e n hb hx=>?_,fun b o e n hx=>?_,fun b o e hx=>?_,fun b xs e=>tups b xs (I.base.tups b xs e),fun b o xs e=>frzs b o xs (I.base.frzs b o xs e),fun b ps e=>?_⟩,?_,fun x c e=>?_,?_,fun x c e=>?_,fun p hp=>?_,hok,I.len⟩
 ·exact keep b o (neL b o e) hb (neC b o e hx) (I.base.keep b o e n hb hx) (I.base.free b o e n hx)
 ·obtain ⟨sl,e1⟩:=I.base.slot b o e n hb hx;obtain ⟨sl',e2⟩:=slot b _ (neL b o e) hb (neC b o e hx) e1 (I.base.free b o e n hx);exact ⟨sl',e2⟩
 ·obtain ⟨o',e1⟩:=I.base.there b o e hx;exact free b o' (neC b o e hx) e1 (I.base.free b o e n hx)
 ·obtain ⟨o',e1⟩:=I.base.there b o e hx;exact there b o' (neC b o e hx) e1
 ·obtain ⟨m1,e1⟩:=I.base.tbls b ps e;obtain ⟨m2,e2⟩:=tbls b _ e1;exact ⟨m1++m2,by rw [e2,Array.append_assoc]⟩
 ·obtain ⟨m,hn,hl⟩:=I.loc;refine ⟨m,ns m hn,fun i x v e1 e2 e3=>?_⟩;obtain ⟨u,r,l⟩:=hl i x v e1 e2 e3;refine ⟨u,r,?_⟩;rcases l with l|⟨k,c,e,z⟩
  ·exact .inl l
  ·exact .inr ⟨k,c,e,cellK x c e _ z⟩
 ·obtain ⟨v,z⟩:=I.cell x c e;exact ⟨v,cellK x c e v z⟩
 ·obtain ⟨m,⟨o,_,_,ho,_⟩,_⟩:=I.loc;exact free _ o (fun z=>(hch _ z).2.1 rfl) ho I.free
 ·obtain ⟨v,o,ho,hd⟩:=I.cell x c e;exact free c o (fun z=>(hch c z).2.2.1 x c e rfl) ho (I.freeC x c e)
 ·obtain ⟨e,n,ne,nf,d⟩:=I.pin p hp;have nch:p.1∉ch:=fun z=>(hch p.1 z).2.2.2 p hp rfl;exact ⟨keep p.1 p.2 ne nf nch e n,free p.1 p.2 nch e n,ne,nf,d⟩
theorem Inv.un {t':Nat} (I:Inv X pins σ H s) (u:Un X.fs [] H H' s.heap h') (hok:HOk X.prog X.w H' h'):Inv X pins σ H' { s with heap:=h',toks:=t' }:=by
 obtain ⟨m,⟨o,es,ep,ho,r⟩,_⟩:=id I.loc;obtain ⟨sl,hL⟩:=u.any ho I.free (by simp);exact I.step (g':=s.gens) (d':=s.drawn) (ch:=[]) (fun _ z=>nomatch z) (fun b o _ hb _ e n=>u.keep b o e n hb (by simp)) (fun b o _ hb _ e n=>u.slot b o e n hb (by simp)) (fun b o _ e n=>u.free b o e n (by simp)) (fun b o _ e=>u.there b o e (by simp)) u.tups u.frzs u.tbls (fun m' hm=>by
  obtain ⟨o',es',ep',ho',r'⟩:=hm
  rw [ho] at ho';cases ho'
  exact ⟨_,es',ep',hL,r'⟩) hok I.bare
theorem Inv.call {g':Array GenState}{t':Nat}{d':Drawn}{ch:List Addr} (I:Inv X pins σ H s) (u:Un (frs X.stack) ch H H' s.heap h') (hok:HOk X.prog X.w H' h') (hg:AllBare g')
  (hch:∀ b∈ch,(b∈X.ex\/X.s₀.heap.objs.size<=b)/\b≠X.env.locals/\(∀ x c,X.env.cells.lookup x=some c->c≠b)/\∀ p∈X.pn++pins,p.1≠b) :
  Inv X pins σ H' { s with heap:=h',gens:=g',drawn:=d',toks:=t' }:=by
 obtain ⟨m,⟨o,es,ep,ho,r⟩,_⟩:=id I.loc;obtain ⟨sl,hL⟩:=u.any ho I.free fun z=>(hch _ z).2.1 rfl;exact I.step (ch:=ch) hch (fun b o hL hb hc e n=>u.keep b o e n (fun z=>(List.mem_cons.mp (I.stkSub b z)).elim hL hb) hc) (fun b o _ _ hc e n=>u.any e n hc) (fun b o hc e n=>u.free b o e n hc) (fun b o hc e=>u.there b o e hc) u.tups u.frzs u.tbls (fun m' hm=>by
  obtain ⟨o',es',ep',ho',r'⟩:=hm
  rw [ho] at ho';cases ho'
  exact ⟨_,es',ep',hL,r'⟩) hok hg
theorem Inv.turned {t':Nat}{it:Addr} (I:Inv X pins σ H s) (k:∀ b o,b≠it->s.heap.get? b=some o->h'.get? b=some o) (hn:H it=none) (hL:it≠X.env.locals)
  (h1:it∈X.ex\/X.s₀.heap.objs.size<=it) (h2:∀ x c,X.env.cells.lookup x=some c->c≠it) (h3:∀ p∈X.pn++pins,p.1≠it):Inv X pins σ H { s with heap:=h',toks:=t' }:=by
 have nit:∀ b u,H b=some u->b≠it:=fun b u e z=>by rw [z,hn] at e;cases e
 refine I.step (g':=s.gens) (d':=s.drawn) (ch:=[it]) (fun b hb=>?_) (fun b o _ _ hc e _=>k b o (fun z=>hc (by simp [z])) e) (fun b o _ _ hc e _=>⟨o.slots,k b o (fun z=>hc (by simp [z])) e⟩) (fun _ _ _ _ n=>n)
  (fun b o hc e=>⟨o,k b o (fun z=>hc (by simp [z])) e⟩) (fun _ _ e=>e) (fun _ _ _ e=>e) (fun b ps e=>⟨#[],by rw [e];simp⟩) (fun m hm=>?_) (fun b u e=>?_) I.bare
 ·have e:b=it:=by simpa using hb
  subst e;exact ⟨h1,hL,h2,h3⟩
 ·obtain ⟨o,es,ep,ho,r⟩:=hm;exact ⟨o,es,ep,k _ o (Ne.symm hL) ho,r⟩
 ·refine (I.hok b u e).stay (fun c v hc q=>k c v ?_ q) (fun _ q=>q) fun _ _ q=>q;rcases hc with z|z
  ·rw [z];exact nit b u e
  ·exact nit c _ z
theorem Inv.tok (I:Inv X pins σ H s) (t:Nat):Inv X pins σ H { s with toks:=t }:=I.un (h':=s.heap) (t':=t) Un.refl I.hok
theorem Inv.kept {t':Nat} (I:Inv X pins σ H s) (k:∀ b u,s.heap.get? b=some u->h'.get? b=some u):Inv X pins σ H { s with heap:=h',toks:=t' }:=I.un (Un.kept k) (I.hok.kept k)
theorem Inv.laid {a:Addr}{o:HO}{t':Nat} (I:Inv X pins σ H s) (k:∀ b u,s.heap.get? b=some u->h'.get? b=some u) (hp:s.heap.objs.size<=a) (new:wk X.prog X.w (upd H a o) h' a o) :
  Inv X pins σ (upd H a o) { s with heap:=h',toks:=t' }:=I.un (Un.laid k hp (I.hok.fresh hp)) (I.hok.laid k hp new)
theorem Inv.write {x e:Addr}{o:HO}{t':Nat} (I:Inv X pins σ H s) (mu:Mut (H x)) (he:e=x\/H e=some (.own x)) (k:∀ b u,b≠e->s.heap.get? b=some u->h'.get? b=some u) (heo:∃ u,h'.get? e=some u)
  (new:wk X.prog X.w (upd H x o) h' x o):Inv X pins σ (upd H x o) { s with heap:=h',toks:=t' }:=I.un (Un.write mu he k heo) (I.hok.write mu he k heo new)
theorem Inv.weak {σ':List (Option V)} (I:Inv X pins σ H s) (hl:σ'.length=σ.length) (w:∀ (i:Nat) v,σ'[i]?=some (some v)->σ[i]?=some (some v)):Inv X pins σ' H s :=
 ⟨I.ok,I.os,I.bare,I.base,let ⟨m,hn,hl'⟩:=I.loc;⟨m,hn,fun i x v e1 e2 e3=>hl' i x v e1 (w i v e2) e3⟩,I.cell,I.free,I.freeC,I.pin,I.hok,hl.trans I.len⟩
theorem Inv.pins_of {pins':List (Addr×Obj)} (I:Inv X pins σ H s) (h:∀ p∈pins',s.heap.get? p.1=some p.2/\H p.1=none/\p.1≠X.env.locals/\p.1∉X.fs/\∀ v,p.2.data≠.cell v):Inv X pins' σ H s :=
 ⟨I.ok,I.os,I.bare,I.base,I.loc,I.cell,I.free,I.freeC,fun p hp=>(List.mem_append.mp hp).elim (fun z=>I.pin p (List.mem_append_left _ z)) (h p),I.hok,I.len⟩
theorem zu7 {N:List Str} (hN:N.Nodup) {i j:Nat}{x:Str} (a:N[i]?=some x) (b:N[j]?=some x):i=j:=by
 obtain ⟨h1,e1⟩:=List.getElem?_eq_some_iff.mp a;obtain ⟨h2,e2⟩:=List.getElem?_eq_some_iff.mp b;exact (List.getElem_inj hN).mp (e1.trans e2.symm)
theorem zsk {M:Model}{A:Around}{E:Value->Shared->Prop}{i:Nat}{x:Str}{v:V}{u:Value}{Q:Unit->Shared->Prop} (I:Inv X pins σ H s) (hN:X.N.Nodup) (hi:X.N[i]?=some x) (hx:Loc X.env.scope x) (r:RelV v u)
  (h:∀ s',Inv X pins (σ.set i (some v)) H s'->(∃ a,Heap.SameBut a s.heap s'.heap/\(a=X.env.locals\/X.env.cells.lookup x=some a))->Q () s') (hf:X.fn x=true\/X.env.scope.names.lookup x=some .local:=by first|exact .inl rfl|exact .inr rfl|assumption):wpAny M A (storeName X.env x u) Q E s:=by
 obtain ⟨m,hn,hl⟩:=id I.loc;have hcls:(X.env.scope.kind==.class||(X.env.scope.kind==.module&&X.env.locals != X.env.globals))=false:=by rw [I.ok.kind];rfl
 have hiσ:i<σ.length:=by rw [I.len];exact (List.getElem?_eq_some_iff.mp hi).1
 have cne:=I.cne;have tracked:∀ {a:Addr} {h':Heap},(∃ o,s.heap.get? a=some o/\H a=none)->Heap.SameBut a s.heap h'->HOk X.prog X.w H h':=fun {a h'} ha hs b ob e=>by
  obtain ⟨_,_,hfree⟩:=ha;refine (I.hok b ob e).stay (fun c w' hc q=>(hs.2 c ?_).trans q) (fun _ q=>q) fun _ _ q=>q;rintro rfl;rcases hc with rfl|hc
  ·rw [hfree] at e;cases e
  ·rw [hfree] at hc;cases hc
 rcases hx with hk|hk
 ·refine wpAny_storeName_local hk hn (fun h' hn' hs=>?_) hcls;obtain ⟨oL,_,_,hoL,_⟩:=id hn;refine h _ ⟨I.ok,I.os,I.bare,⟨fun b o e n hb hx=>?_,fun b o e n hb hx=>?_,I.base.free,fun b o e hx=>?_,I.base.tups,I.base.frzs,I.base.tbls⟩,⟨_,hn',fun j y v' e1 e2 e3=>?_⟩,fun y c e=>?_,I.free,I.freeC,fun p hp=>?_,tracked ⟨oL,hoL,I.free⟩ hs,by simpa using I.len⟩ ⟨_,hs,.inl rfl⟩
  ·exact (hs.2 b (Nat.ne_of_lt (Nat.lt_of_lt_of_le (Heap.lt_size e) I.ok.above))).trans (I.base.keep b o e n hb hx)
  ·obtain ⟨sl,e1⟩:=I.base.slot b o e n hb hx;exact ⟨sl,(hs.2 b (Nat.ne_of_lt (Nat.lt_of_lt_of_le (Heap.lt_size e) I.ok.above))).trans e1⟩
  ·obtain ⟨o',e1⟩:=I.base.there b o e hx;exact ⟨o',(hs.2 b (Nat.ne_of_lt (Nat.lt_of_lt_of_le (Heap.lt_size e) I.ok.above))).trans e1⟩
  ·by_cases hj:j=i
   ·subst hj;rw [hi] at e1;cases e1;rw [List.getElem?_set_self hiσ] at e2;cases e2
    exact ⟨u,r,.inl ⟨hk,by simp⟩⟩
   ·rw [List.getElem?_set_ne (Ne.symm hj)] at e2;obtain ⟨u',r',q⟩:=hl j y v' e1 e2 e3;refine ⟨u',r',?_⟩;rcases q with ⟨k,e⟩|⟨k,c,e,z⟩
    ·refine .inl ⟨k,?_⟩;have:y≠x:=fun e=>hj (zu7 hN e1 (e▸hi));simp [this,e]
    ·exact .inr ⟨k,c,e,z.sameBut hs (cne y c e)⟩
  ·obtain ⟨w',z⟩:=I.cell y c e;exact ⟨w',z.sameBut hs (cne y c e)⟩
  ·obtain ⟨e,n,ne,nf,d⟩:=I.pin p hp;exact ⟨(hs.2 p.1 ne).trans e,n,ne,nf,d⟩
 ·have hfn:X.fn x=true:=by
   rcases hf with z|z
   ·exact z
   ·rw [z] at hk;cases hk
  obtain ⟨c,hc⟩:=I.ok.has x (.inl hk);obtain ⟨w',z⟩:=I.cell x c hc;refine wpAny_storeName_cell I.ok.kind hk hc z (fun h' hc' hs=>?_);obtain ⟨oc,hoc,hocd⟩:=id z;refine h { s with heap:=h' } ⟨I.ok,I.os,I.bare,⟨fun b o e n hb hx=>?_,fun b o e n hb hx=>?_,I.base.free,fun b o e hx=>?_,I.base.tups,I.base.frzs,I.base.tbls⟩,⟨m,hn.sameBut hs (Ne.symm (cne x c hc)),fun j y v' e1 e2 e3=>?_⟩,fun y c' e=>?_,I.free,I.freeC,fun p hp=>?_,tracked ⟨oc,hoc,I.freeC x c hc⟩ hs,by simpa using I.len⟩ ⟨c,hs,.inr hc⟩
  ·exact (hs.2 b (Nat.ne_of_lt (Nat.lt_of_lt_of_le (Heap.lt_size e) (I.ok.cab x c hfn hc)))).trans (I.base.keep b o e n hb hx)
  ·obtain ⟨sl,e1⟩:=I.base.slot b o e n hb hx;exact ⟨sl,(hs.2 b (Nat.ne_of_lt (Nat.lt_of_lt_of_le (Heap.lt_size e) (I.ok.cab x c hfn hc)))).trans e1⟩
  ·obtain ⟨o',e1⟩:=I.base.there b o e hx;exact ⟨o',(hs.2 b (Nat.ne_of_lt (Nat.lt_of_lt_of_le (Heap.lt_size e) (I.ok.cab x c hfn hc)))).trans e1⟩
  ·by_cases hj:j=i
   ·subst hj;rw [hi] at e1;cases e1;rw [List.getElem?_set_self hiσ] at e2;cases e2
    exact ⟨u,r,.inr ⟨.inl hk,c,hc,hc'⟩⟩
   ·rw [List.getElem?_set_ne (Ne.symm hj)] at e2;obtain ⟨u',r',q⟩:=hl j y v' e1 e2 e3;refine ⟨u',r',?_⟩;rcases q with q|⟨k,c',e,z'⟩
    ·exact .inl q
    ·refine .inr ⟨k,c',e,z'.sameBut hs ?_⟩;rintro rfl;exact hj (zu7 hN e1 (I.ok.inj _ _ _ e hc▸hi))
  ·by_cases hcc:c'=c
   ·subst hcc;exact ⟨_,hc'⟩
   ·obtain ⟨w2,z2⟩:=I.cell y c' e;exact ⟨w2,z2.sameBut hs hcc⟩
  ·obtain ⟨e,n,ne,nf,d⟩:=I.pin p hp;refine ⟨(hs.2 p.1 ?_).trans e,n,ne,nf,d⟩;intro q;rw [q,hoc] at e;have q':oc=p.2:=Option.some.inj e;exact d w' (by rw [<- q'];exact hocd)
theorem zks {M:Model}{A:Around}{E:Value->Shared->Prop}{i:Nat}{x:Str}{v:V}{u:Value}{Q:Unit->Shared->Prop} (I:Inv X pins σ H s) (hN:X.N.Nodup) (hi:X.N[i]?=some x) (hx:Loc X.env.scope x) (r:RelV v u)
  (h:∀ s',Inv X pins (σ.set i (some v)) H s'->Q () s') (hf:X.fn x=true\/X.env.scope.names.lookup x=some .local:=by first|exact .inl rfl|exact .inr rfl|assumption):wpAny M A (storeName X.env x u) Q E s :=
 zsk I hN hi hx r (fun s' I' _=>h s' I') hf
theorem Inv.call' {s':Shared}{ch:List Addr} (I:Inv X pins σ H s) (ho:s'.os=s.os) (u:Un (frs X.stack) ch H H' s.heap s'.heap) (hok:HOk X.prog X.w H' s'.heap) (hg:AllBare s'.gens)
  (hch:∀ b∈ch,(b∈X.ex\/X.s₀.heap.objs.size<=b)/\b≠X.env.locals/\(∀ x c,X.env.cells.lookup x=some c->c≠b)/\∀ p∈X.pn++pins,p.1≠b):Inv X pins σ H' s':=by
 obtain ⟨h',g',d',t',o'⟩:=s';have e:o'=s.os:=ho;subst e;exact I.call (g':=g') (t':=t') (d':=d') u hok hg hch
end
noncomputable abbrev XK:=Value->Option Addr->Hp->Prop
noncomputable abbrev St:=List (Option V)
noncomputable abbrev VK:=V->Hp->Prop
noncomputable abbrev TE:=St->Hp->VK->Prop
noncomputable abbrev TT:=St->Hp->(Bool->Hp->Prop)->Prop
noncomputable abbrev TA:=St->Hp->(List V->Hp->Prop)->Prop
structure Ends where
 nx:St->Hp->Prop
 rt:VK
 bk:St->Hp->Prop:=fun _ _=>False
 ct:St->Hp->Prop:=fun _ _=>False
noncomputable abbrev TS:=Ends->St->Hp->Prop
noncomputable def EP (X:Cx) (pins:List (Addr×Obj)) (σ:St) (Q:VK) (u:Value) (s':Shared):Prop:=∃ v H',Inv X pins σ H' s'/\RelV v u/\Q v H'
noncomputable def TP (X:Cx) (pins:List (Addr×Obj)) (σ:St) (Q:Bool->Hp->Prop) (b:Bool) (s':Shared):Prop:=∃ H',Inv X pins σ H' s'/\Q b H'
noncomputable def AP (X:Cx) (pins:List (Addr×Obj)) (σ:St) (Q:List V->Hp->Prop) (us:List Value) (s':Shared):Prop:=∃ vs H',Inv X pins σ H' s'/\Vals vs us/\Q vs H'
noncomputable def SP (X:Cx) (pins:List (Addr×Obj)) (D:Ends) (f:Flow) (s':Shared):Prop :=
 match f with
 |.next=>∃ σ' H',Inv X pins σ' H' s'/\D.nx σ' H'
 |.brk=>∃ σ' H',Inv X pins σ' H' s'/\D.bk σ' H'
 |.cont=>∃ σ' H',Inv X pins σ' H' s'/\D.ct σ' H'
 |.ret u=>∃ v σ' H',Inv X pins σ' H' s'/\RelV v u/\D.rt v H'
noncomputable def PE (X:Cx) (e:Expr) (t:TE):Prop :=
 ∀ (pins:List (Addr×Obj)) (s:Shared) (σ:St) (H:Hp) (Q:VK),Inv X pins σ H s->t σ H Q->wpAny (model X.prog X.w) X.A (eval e X.env) (EP X pins σ Q) X.xe s
noncomputable def PT (X:Cx) (e:Expr) (t:TT):Prop :=
 ∀ (pins:List (Addr×Obj)) (s:Shared) (σ:St) (H:Hp) (Q:Bool->Hp->Prop),Inv X pins σ H s->t σ H Q->wpAny (model X.prog X.w) X.A (isTrue e X.env (eval e X.env)) (TP X pins σ Q) X.xe s
noncomputable def PW (X:Cx) (e:Expr) (t:TT):Prop :=
 ∀ (whole:Sem Value) (pins:List (Addr×Obj)) (s:Shared) (σ:St) (H:Hp) (Q:Bool->Hp->Prop),Inv X pins σ H s->t σ H Q->wpAny (model X.prog X.w) X.A (isTrue e X.env whole) (TP X pins σ Q) X.xe s
theorem PW.pt {X:Cx}{e:Expr}{t:TT} (h:PW X e t):PT X e t:=h _
noncomputable def PA (X:Cx) (es:List Expr) (t:TA):Prop :=
 ∀ (pos:Pos) (pins:List (Addr×Obj)) (s:Shared) (σ:St) (H:Hp) (Q:List V->Hp->Prop),Inv X pins σ H s->t σ H Q->wpAny (model X.prog X.w) X.A (spliced (backTo pos (starEach es X.env))) (AP X pins σ Q) X.xe s
noncomputable def PS (X:Cx) (st:Stmt) (t:TS):Prop :=
 ∀ (pins:List (Addr×Obj)) (s:Shared) (σ:St) (H:Hp) (D:Ends),Inv X pins σ H s->t D σ H->wpAny (model X.prog X.w) X.A (exec st X.env) (SP X pins D) X.xe s
noncomputable def PSs (X:Cx) (st:List Stmt) (t:TS):Prop :=
 ∀ (pins:List (Addr×Obj)) (s:Shared) (σ:St) (H:Hp) (D:Ends),Inv X pins σ H s->t D σ H->wpAny (model X.prog X.w) X.A (execs st X.env) (SP X pins D) X.xe s
theorem thn {α:Type}{t:Sem α}{Q Q':α->Shared->Prop}{M:Model}{A:Around}{E:Value->Shared->Prop}{s:Shared} (h:wpAny M A t Q E s) (hQ:∀ a s,Q a s->Q' a s):wpAny M A t Q' E s:=wpAny_mono h hQ fun _ _ x=>x
section
variable {X:Cx}
noncomputable def zwq (i:Nat):TE:=fun σ H Q=>∃ v,σ[i]?=some (some v)/\Q v H
noncomputable def tC (v:V):TE:=fun _ H Q=>Q v H
theorem z53 {i:Nat}{x:Str}{pos:Pos} (hN:X.N[i]?=some x) (hv:Vis X.env.scope x) (hd:(x==("__debug__":Str))=false:=by decide) (hcd:(x==("__classdict__":Str))=false:=by decide):PE X (.Name x pos) (zwq i):=by
 intro pins s σ H Q I h;obtain ⟨v,e,h⟩:=h;obtain ⟨m,hn,hl⟩:=I.loc;obtain ⟨u,r,l⟩:=hl i x v hN e hv;have fin:EP X pins σ Q u s:=⟨v,H,I,r,h⟩
 rcases l with ⟨hk,hm⟩|⟨hk,c,hc,hcell⟩
 ·exact wpAny_Name (wpAny_loadName_local I.ok.kind hk hn hm fin) hd
 ·rcases hk with hk|hk
  ·exact wpAny_Name (wpAny_loadName_cell I.ok.kind hk hc hcell fin) hd
  ·exact wpAny_Name (wpAny_loadName_free I.ok.kind hk hc hcell fin hcd) hd
theorem zc {i j pos}:PE X (.Constant (.int i) j pos) (tC (.int i)):=fun _ _ _ H _ I h=>wpAny_Constant_int ⟨.int i,H,I.tok _,⟨_,rfl⟩,h⟩
theorem zf5 {b j pos}:PE X (.Constant (.bool b) j pos) (tC (.bl b)):=fun _ _ _ H _ I h=>Constant_bool ⟨.bl b,H,I,rfl,h⟩
noncomputable def Gl (X:Cx) (x:Str):Prop:=X.env.kindOf x=some .globalImplicit
theorem zq3 {E:Value->Shared->Prop}{pins:List (Addr×Obj)}{s:Shared}{σ:St}{H:Hp}{x:Str}{u:Value}{pos:Pos}{Q:Value->Shared->Prop} (I:Inv X pins σ H s) (hg:Gl X x) (hm:X.mg x=some u) (h:Q u s)
  (hd:(x==("__debug__":Str))=false:=by decide):wpAny (model X.prog X.w) X.A (eval (.Name x pos) X.env) Q E s :=
 Calls.Name_function_global I.ok.kind hg (Calls.loadGlobal_global (by rw [I.ok.glob];exact I.mod.glob.keeps I.bk) hm h) hd
theorem ziy {E:Value->Shared->Prop}{pins:List (Addr×Obj)}{s:Shared}{σ:St}{H:Hp}{x:Str}{u:Value}{pos:Pos}{Q:Value->Shared->Prop} (I:Inv X pins σ H s) (hg:Gl X x) (hm:X.mg x=none) (hv:bootBuiltins x=some u) (h:Q u s)
  (hn:x≠"__name__":=by decide) (hd:(x==("__debug__":Str))=false:=by decide):wpAny (model X.prog X.w) X.A (eval (.Name x pos) X.env) Q E s:=by
 obtain ⟨mb,h1,h2⟩:=I.mod.blt;exact Calls.Name_function_global I.ok.kind hg (Calls.loadGlobal_builtin (by rw [I.ok.glob];exact I.mod.glob.keeps I.bk) hm (by rw [I.ok.blt];exact h1.keeps I.bk) ((h2 x hn).trans hv) h) hd
theorem z3w {x:Str}{v:V}{u:Value}{pos:Pos} (hg:Gl X x) (hm:X.mg x=some u) (r:RelV v u) (hd:(x==("__debug__":Str))=false:=by decide):PE X (.Name x pos) (tC v) :=
 fun _ _ _ H _ I h=>zq3 I hg hm ⟨v,H,I,r,h⟩ hd
theorem z3r {x:Str}{v:V}{u:Value}{pos:Pos} (hg:Gl X x) (hm:X.mg x=none) (hv:bootBuiltins x=some u) (r:RelV v u) (hn:x≠"__name__":=by decide) (hd:(x==("__debug__":Str))=false:=by decide):PE X (.Name x pos) (tC v) :=
 fun _ _ _ H _ I h=>ziy I hg hm hv ⟨v,H,I,r,h⟩ hn hd
variable {a b:Expr}{ta tb:TE}{pos:Pos}
noncomputable def PC (X:Cx) (op:CmpOp) (a b:Expr) (t:TE):Prop :=
 ∀ (pins:List (Addr×Obj)) (s:Shared) (σ:St) (H:Hp) (Q:VK),Inv X pins σ H s->t σ H Q ->
  wpAny (model X.prog X.w) X.A (eval a X.env) (fun v s₁=>wpAny (model X.prog X.w) X.A (eval b X.env) (fun u s₂=>wpAny (model X.prog X.w) X.A (compareOp op v u) (EP X pins σ Q) X.xe s₂) X.xe s₁) X.xe s
noncomputable def tB (t:TE):TT:=fun σ H Q=>t σ H fun x H1=>∃ c,x=.bl c/\Q c H1
theorem z5x {op:CmpOp}{t:TE} (h:PC X op a b t) (h1:behindInMarks op b=false:=by first|exact nobehind _ (by decide) (by decide)|rfl):PE X (.Compare a [op] [b] pos) t:=fun pins s σ H Q I hw=>wpAny_Compare1 (h pins s σ H Q I hw) h1
theorem zl8 {op:CmpOp}{t:TE} (h:PC X op a b t) (h1:behindInMarks op b=false:=by first|exact nobehind _ (by decide) (by decide)|rfl):PT X (.Compare a [op] [b] pos) (tB t):=by
 intro pins s σ H Q I hw;refine wpAny_isTrue_Compare1 (thn (h pins s σ H _ I hw) fun v s1 h1=>thn h1 fun u s2 h2=>thn h2 fun c s3 ⟨x,H1,I1,r1,q1⟩=>?_) h1;obtain ⟨d,rfl,q⟩:=q1;cases r1
 exact wpAny_truthy_bool ⟨H1,I1,q⟩
theorem j5 {e:Expr}{t:TE} (h:PE X e t) (he:∀ whole,isTrue e X.env whole=(do let v <- whole;standAt e.pos;holding [v] (truthy v)):=by intro _;rfl):PT X e (tB t):=by
 intro pins s σ H Q I hw;refine isTrue_plain (thn (h pins s σ H _ I hw) fun v s1 ⟨x,H1,I1,r1,q1⟩=>?_) (he _);obtain ⟨d,rfl,q⟩:=q1;cases r1
 exact wpAny_truthy_bool ⟨H1,I1,q⟩
variable {tA tB':TT}{rest:List Expr}
noncomputable def z8p (t u:TT):TT:=fun σ H Q=>t σ H fun c H1=>if c=true then u σ H1 Q else Q false H1
noncomputable def tOr (t u:TT):TT:=fun σ H Q=>t σ H fun c H1=>if c=true then Q true H1 else u σ H1 Q
noncomputable def z90 (t:TT):TT:=fun σ H Q=>t σ H fun c H1=>Q (!c) H1
theorem zd2 (ha:PT X a tA):PW X (.BoolOp .And [a] pos) tA:=by
 intro wh pins s σ H Q I h;refine isTrue_and (thn (ha pins s σ H Q I h) fun c s1 e=>?_);cases c with
 |true=>exact isTrue_and_nil e
 |false=>exact e
theorem zbd (ha:PT X a tA):PW X (.BoolOp .Or [a] pos) tA:=by
 intro wh pins s σ H Q I h;refine isTrue_or (thn (ha pins s σ H Q I h) fun c s1 e=>?_);cases c with
 |false=>exact isTrue_or_nil e
 |true=>exact e
theorem zc8 (ha:PT X a tA) (hb:PW X (.BoolOp .And (b::rest) pos) tB'):PW X (.BoolOp .And (a::b::rest) pos) (z8p tA tB'):=by
 intro wh pins s σ H Q I h;refine isTrue_and (thn (ha pins s σ H _ I h) fun c s1 ⟨H1,I1,q1⟩=>?_);cases c with
 |true=>exact hb wh pins s1 σ H1 Q I1 q1
 |false=>exact ⟨H1,I1,q1⟩
theorem zc6 (ha:PT X a tA) (hb:PW X (.BoolOp .Or (b::rest) pos) tB'):PW X (.BoolOp .Or (a::b::rest) pos) (tOr tA tB'):=by
 intro wh pins s σ H Q I h;refine isTrue_or (thn (ha pins s σ H _ I h) fun c s1 ⟨H1,I1,q1⟩=>?_);cases c with
 |true=>exact ⟨H1,I1,q1⟩
 |false=>exact hb wh pins s1 σ H1 Q I1 q1
theorem yj (ha:PT X a tA):PT X (.UnaryOp .Not a pos) (z90 tA):=by
 intro pins s σ H Q I h;exact isTrue_not (ha pins s σ H (fun c H1=>Q (!c) H1) I h)
noncomputable def z00 (ta tb:TE):TE:=fun σ H Q=>ta σ H fun x H1=>∃ c,x=.bl c/\if c=true then tb σ H1 Q else Q (.bl false) H1
noncomputable def z40 (ta:TE):TE:=fun σ H Q=>ta σ H fun x H1=>∃ c,x=.bl c/\Q (.bl (!c)) H1
theorem zd3 {op}{t:TE} (h:PE X a t):PE X (.BoolOp op [a] pos) t:=fun pins s σ H Q I hw=>BoolOp_one (h pins s σ H Q I hw)
theorem zcv (ha:PE X a ta) (hb:PE X (.BoolOp .And (b::rest) pos) tb):PE X (.BoolOp .And (a::b::rest) pos) (z00 ta tb):=by
 intro pins s σ H Q I h;refine BoolOp_and (thn (ha pins s σ H _ I h) fun v s1 ⟨x,H1,I1,r1,q1⟩=>?_);obtain ⟨c,rfl,q1⟩:=q1;cases r1
 refine wpAny_truthy_bool ?_;cases c with
 |true=>exact hb pins s1 σ H1 Q I1 q1
 |false=>exact ⟨.bl false,H1,I1,rfl,q1⟩
theorem zu5 (ha:PE X a ta):PE X (.UnaryOp .Not a pos) (z40 ta):=by
 intro pins s σ H Q I h;refine UnaryOp_ (thn (ha pins s σ H _ I h) fun v s1 ⟨x,H1,I1,r1,q1⟩=>?_);obtain ⟨c,rfl,q1⟩:=q1;cases r1
 exact not_of (wpAny_truthy_bool ⟨.bl (!c),H1,I1,rfl,q1⟩)
noncomputable def tIf (t:TT) (ta tb:TE):TE:=fun σ H Q=>t σ H fun c H1=>if c=true then ta σ H1 Q else tb σ H1 Q
theorem zqu {c:Expr} (hc:PT X c tA) (ha:PE X a ta) (hb:PE X b tb):PE X (.IfExp c a b pos) (tIf tA ta tb):=by
 intro pins s σ H Q I h;refine wpAny_IfExp (thn (hc pins s σ H _ I h) fun d s1 ⟨H1,I1,q1⟩=>?_);cases d with
 |true=>exact ha pins s1 σ H1 Q I1 q1
 |false=>exact hb pins s1 σ H1 Q I1 q1
end
noncomputable def SqL (K:PySem.W.Frag) (H:Hp) (a:Addr) (xs:List V):Prop :=
 Rd H a (.lst xs) \/
  ∃ (o:Obj) (its:Array Value) (n:Nat),K.lookup a=some o/\o.cls=.type "list"/\o.dict=none/\o.data=.seq its n/\its.size<=sizeLine/\Vals xs its.toList
noncomputable def SqT (K:PySem.W.Frag) (H:Hp) (a:Addr) (xs:List V):Prop :=
 Rd H a (.tup xs) \/
  ∃ (o:Obj) (its:Array Value) (n:Nat),K.lookup a=some o/\o.cls=.type "tuple"/\o.data=.seq its n/\its.size<=sizeLine/\Vals xs its.toList
noncomputable def qan:Value->Option V
 |.none=>some .non
 |.bool b=>some (.bl b)
 |.int i _=>some (.int i)
 |.str x _=>some (.str x)
 |.bytes b _=>some (.byt b)
 |.float b _=>some (.flt b)
 |.ref a=>some (.ref a)
 |.type n=>some (.ty n)
 |_=>none
theorem RelV.abs {x:V}{u:Value} (r:RelV x u):qan u=some x:=by
 cases x with
 |non=>cases r;rfl
 |bl _=>cases r;rfl
 |int _=>obtain ⟨t,rfl⟩:=r;rfl
 |str _=>obtain ⟨t,rfl⟩:=r;rfl
 |byt _=>obtain ⟨t,rfl⟩:=r;rfl
 |flt _=>obtain ⟨t,rfl⟩:=r;rfl
 |ref _=>cases r;rfl
 |ty _=>cases r;rfl
theorem RelV.inj {x y:V}{u:Value} (r:RelV x u) (q:RelV y u):x=y:=Option.some.inj (r.abs.symm.trans q.abs)
theorem Vals.inj:∀ {xs ys:List V}{us:List Value},Vals xs us->Vals ys us->xs=ys
 |_,_,_,.nil,.nil=>rfl
 |_,_,_,.cons r t,.cons r' t'=>by rw [r.inj r',Vals.inj t t']
section
variable {X:Cx}{pins:List (Addr×Obj)}{σ:St}{H:Hp}{s:Shared}{a:Addr}{xs ys:List V}
theorem SqL.of {K:PySem.W.Frag} (h:H a=some (.lst xs)):SqL K H a xs:=.inl (.inl h)
theorem SqT.of {K:PySem.W.Frag} (h:H a=some (.tup xs)):SqT K H a xs:=.inl (.inl h)
theorem Inv.list (I:Inv X pins σ H s) (h:SqL X.K H a xs):∃ its:List Value,Vals xs its/\PlainL s.heap a its.toArray/\xs.length<=sizeLine:=by
 rcases h with h|⟨o,its,n,hk,hc,hd,hs,hz,r⟩
 ·obtain ⟨z,its,n,r,e⟩:=h.ok I.hok;exact ⟨its,r,⟨_,n,e,rfl,rfl,rfl⟩,z⟩
 ·refine ⟨its.toList,r,⟨o,n,I.kIn a o hk,hc,hd,by simpa using hs⟩,?_⟩;have e:=r.length;simp only [Array.length_toList] at e;lia
theorem Inv.tuple (I:Inv X pins σ H s) (h:SqT X.K H a xs):∃ its:List Value,Vals xs its/\IsTup s.heap a its.toArray/\xs.length<=sizeLine:=by
 rcases h with h|⟨o,its,n,hk,hc,hs,hz,r⟩
 ·obtain ⟨z,its,r,p⟩:=h.ok I.hok;exact ⟨its,r,p,z⟩
 ·refine ⟨its.toList,r,⟨o,I.kIn a o hk,hc,n,by simpa using hs⟩,?_⟩;have e:=r.length;simp only [Array.length_toList] at e;lia
theorem Inv.list_inj (I:Inv X pins σ H s) (h:SqL X.K H a xs) (h':SqL X.K H a ys):xs=ys:=by
 obtain ⟨its,r,⟨o,n,e,_,_,d⟩,_⟩:=I.list h;obtain ⟨its',r',⟨o',n',e',_,_,d'⟩,_⟩:=I.list h';rw [e] at e';cases e';rw [d] at d';injection d' with d1 _
 have:its=its':=by simpa using congrArg Array.toList d1
 subst this;exact r.inj r'
end
noncomputable abbrev Cx.wish (X:Cx) (E:Value->Shared->Prop):Cx:={ X with xe:=E }
noncomputable abbrev Cx.nox (X:Cx):Cx:=X.wish fun _ _=>False
theorem Cx.Ok.wish {X:Cx} (ok:X.Ok) (E:Value->Shared->Prop):(X.wish E).Ok :=
 ⟨ok.mod,ok.kind,ok.glob,ok.blt,ok.above,ok.inj,ok.has,ok.cab,ok.hd,ok.frames,ok.stk,ok.exf,ok.bs,ok.bsz,ok.noex,ok.exfs,ok.funs,ok.frf⟩
theorem Cx.Ok.unwish {X:Cx}{E:Value->Shared->Prop} (ok:(X.wish E).Ok):X.Ok :=
 ⟨ok.mod,ok.kind,ok.glob,ok.blt,ok.above,ok.inj,ok.has,ok.cab,ok.hd,ok.frames,ok.stk,ok.exf,ok.bs,ok.bsz,ok.noex,ok.exfs,ok.funs,ok.frf⟩
section
variable {X:Cx}{pins:List (Addr×Obj)}{σ:St}{H:Hp}{s:Shared}{E:Value->Shared->Prop}
theorem Inv.wish (I:Inv X pins σ H s) (E:Value->Shared->Prop):Inv (X.wish E) pins σ H s:=⟨I.ok.wish E,I.os,I.bare,I.base,I.loc,I.cell,I.free,I.freeC,I.pin,I.hok,I.len⟩
theorem Inv.unwish (I:Inv (X.wish E) pins σ H s):Inv X pins σ H s:=⟨I.ok.unwish,I.os,I.bare,I.base,I.loc,I.cell,I.free,I.freeC,I.pin,I.hok,I.len⟩
theorem SP.unwish {D:Ends}{f:Flow}{s':Shared} (h:SP (X.wish E) pins D f s'):SP X pins D f s':=by
 cases f with
 |next=>obtain ⟨σ',H',I,q⟩:=h;exact ⟨σ',H',I.unwish,q⟩
 |brk=>obtain ⟨σ',H',I,q⟩:=h;exact ⟨σ',H',I.unwish,q⟩
 |cont=>obtain ⟨σ',H',I,q⟩:=h;exact ⟨σ',H',I.unwish,q⟩
 |ret u=>obtain ⟨v,σ',H',I,r,q⟩:=h;exact ⟨v,σ',H',I.unwish,r,q⟩
theorem PSs.nox {st:List Stmt}{t:TS} (h:PSs X.nox st t):PSs X st t:=fun pins s σ H D I hw =>
 wpAny_mono (h pins s σ H D (I.wish _) hw) (fun _ _ q=>q.unwish) fun _ _ z=>False.elim z
end
section
variable {X:Cx}{st:Stmt}{rest:List Stmt}{t u:TS}{e:Expr}{te:TE}{pos:Pos}
noncomputable def z2n:TS:=fun D σ H=>D.nx σ H
noncomputable def z8g (t u:TS):TS:=fun D σ H=>t { D with nx:=u D } σ H
theorem vm:PSs X [] z2n:=fun _ _ σ H _ I h=>wpAny_execs_nil ⟨σ,H,I,h⟩
theorem za (h1:PS X st t) (h2:PSs X rest u):PSs X (st::rest) (z8g t u):=by
 intro pins s σ H D I h;refine wpAny_execs_cons (thn (h1 pins s σ H { D with nx:=u D } I h) fun f s1 q=>?_);cases f with
 |next =>
  obtain ⟨σ',H',I',q⟩:=q;exact h2 pins s1 σ' H' D I' q
 |ret v=>exact q
 |brk=>exact q
 |cont=>exact q
theorem zp (h1:PS X st t):PSs X [st] t:=by
 intro pins s σ H D I h;refine wpAny_execs_cons (thn (h1 pins s σ H D I h) fun f s1 q=>?_);cases f with
 |next=>exact wpAny_execs_nil q
 |ret v=>exact q
 |brk=>exact q
 |cont=>exact q
noncomputable def z1r:TS:=fun D σ H=>D.bk σ H
theorem zzs:PS X (.Break pos) z1r:=fun _ _ σ H _ I h=>wpAny_Break ⟨σ,H,I,h⟩
theorem Inv.quiet {pins:List (Addr×Obj)}{σ:St}{H:Hp}{s:Shared} (I:Inv X pins σ H s):interactive X.env=false:=by simp [interactive,I.ok.kind]
noncomputable def z23 (te:TE):TS:=fun D σ H=>te σ H fun _ H1=>D.nx σ H1
theorem zgz (he:PE X e te) (hs:swapsWith e none pos.line X.env=pure false:=by rfl):PS X (.Expr e pos) (z23 te):=by
 intro pins s σ H D I h;exact wpAny_Expr_any (thn (he pins s σ H _ I h) fun v s1 ⟨x,H1,I1,r1,q1⟩=>⟨σ,H1,I1,q1⟩) I.quiet hs
noncomputable def z7d (te:TE):TS:=fun D σ H=>te σ H D.rt
theorem qx (he:PE X e te):PS X (.Return (some e) pos) (z7d te):=by
 intro pins s σ H D I h;exact wpAny_Return_some (thn (he pins s σ H _ I h) fun v s1 ⟨x,H1,I1,r1,q1⟩=>⟨x,σ,H1,I1,r1,q1⟩)
noncomputable def z7c (c:TT) (t u:TS):TS:=fun D σ H=>c σ H fun b H1=>if b=true then t D σ H1 else u D σ H1
theorem zc2 {c:Expr}{a b:List Stmt}{tc:TT} (hc:PT X c tc) (ha:PSs X a t) (hb:PSs X b u):PS X (.If c a b pos) (z7c tc t u):=by
 intro pins s σ H D I h;refine wpAny_If (thn (hc pins s σ H _ I h) fun d s1 ⟨H1,I1,q1⟩=>?_);cases d with
 |true=>exact ha pins s1 σ H1 D I1 q1
 |false=>exact hb pins s1 σ H1 D I1 q1
noncomputable def z4n:TS:=fun _ _ _=>False
theorem zqn:PS X st z4n:=fun _ _ _ _ _ _ h=>h.elim
end
noncomputable abbrev TG:=V->St->Hp->(St->Hp->Prop)->Prop
noncomputable abbrev TGs:=List V->St->Hp->(St->Hp->Prop)->Prop
noncomputable def PG (X:Cx) (target:Expr) (t:TG):Prop :=
 ∀ (pins:List (Addr×Obj)) (s:Shared) (σ:St) (H:Hp) (v:V) (u:Value) (Q:St->Hp->Prop),Inv X pins σ H s->RelV v u->t v σ H Q ->
  wpAny (model X.prog X.w) X.A (assign target X.env u) (fun _ s'=>∃ σ' H',Inv X pins σ' H' s'/\Q σ' H') X.xe s
noncomputable def PGs (X:Cx) (ts:List Expr) (t:TGs):Prop :=
 ∀ (pins:List (Addr×Obj)) (s:Shared) (σ:St) (H:Hp) (vs:List V) (us:List Value) (Q:St->Hp->Prop),Inv X pins σ H s->Vals vs us->t vs σ H Q ->
  wpAny (model X.prog X.w) X.A (assignInOrder ((assignEach ts X.env).map (·.2)) us) (fun _ s'=>∃ σ' H',Inv X pins σ' H' s'/\Q σ' H') X.xe s
noncomputable abbrev z67:=V->V->V->Hp->(Hp->Prop)->Prop
noncomputable def z8z (X:Cx) (t:z67):Prop :=
 ∀ (pins:List (Addr×Obj)) (s:Shared) (σ:St) (H:Hp) (o i v:V) (ov iv u:Value) (Q:Hp->Prop),Inv X pins σ H s->RelV o ov->RelV i iv->RelV v u->t o i v H Q ->
  wpAny (model X.prog X.w) X.A (setItem ov iv u) (fun _ s'=>∃ H',Inv X pins σ H' s'/\Q H') X.xe s
noncomputable abbrev TIp:=V->V->Hp->VK->Prop
noncomputable def PIp (X:Cx) (op:Operator) (t:TIp):Prop :=
 ∀ (pins:List (Addr×Obj)) (s:Shared) (σ:St) (H:Hp) (x y:V) (v u:Value) (Q:VK),Inv X pins σ H s->RelV x v->RelV y u->t x y H Q ->
  wpAny (model X.prog X.w) X.A (inplaceOp op v u) (EP X pins σ Q) X.xe s
section
variable {X:Cx}{pos:Pos}
noncomputable def ztt (i:Nat):TG:=fun v σ H Q=>Q (σ.set i (some v)) H
theorem zx7 {i:Nat}{x:Str} (hN:X.N.Nodup) (hi:X.N[i]?=some x) (hx:Loc X.env.scope x) (hf:X.fn x=true\/X.env.scope.names.lookup x=some .local:=by first|exact .inl rfl|exact .inr rfl|assumption):PG X (.Name x pos) (ztt i):=by
 intro pins s σ H v u Q I r h;exact wpAny_assign_Name (zks I hN hi hx r (fun s' I'=>⟨_,H,I',h⟩) hf)
noncomputable def z9r:TGs:=fun vs σ H Q=>vs=[]/\Q σ H
noncomputable def z6b (t:TG) (u:TGs):TGs:=fun vs σ H Q=>∃ v r,vs=v::r/\t v σ H fun σ' H'=>u r σ' H' Q
theorem zb2:PGs X [] z9r:=by
 intro pins s σ H vs us Q I r h;obtain ⟨e,h⟩:=h;subst e;cases r
 exact assignInOrder_nil ⟨σ,H,I,h⟩
theorem jj {e:Expr}{es:List Expr}{t:TG}{u:TGs} (h1:PG X e t) (h2:PGs X es u)
  (hs:(assignEach (e::es) X.env).map (·.2)=assign e X.env::(assignEach es X.env).map (·.2):=by rfl):PGs X (e::es) (z6b t u):=by
 intro pins s σ H vs us Q I r h;obtain ⟨v,vr,e1,h⟩:=h;subst e1;cases r with
 |cons r rr =>
  rw [hs];refine assignInOrder_cons (thn (h1 pins s σ H _ _ _ I r h) fun _ s1 ⟨σ1,H1,I1,q1⟩=>?_);exact h2 pins s1 σ1 H1 _ _ Q I1 rr q1
noncomputable def z9g (K:PySem.W.Frag) (n:Nat) (t:TGs):TG:=fun v σ H Q=>∃ a xs,v=.ref a/\SqT K H a xs/\xs.length=n/\t xs σ H Q
theorem zel {es:List Expr}{k:Nat}{t:TGs}{n:Nat} (hc:X.calm=true) (h:PGs X es t)
  (hn:(assignEach es X.env).length=n:=by rfl) (hst:(assignEach es X.env).findIdx? (·.1)=none:=by rfl):PG X (.Tuple es k pos) (z9g X.K n t):=by
 intro pins s σ H v u Q I r hw;obtain ⟨a,xs,e1,hq,hl,hw⟩:=hw;subst e1;cases r
 obtain ⟨its,rv,ht,hz⟩:=I.tuple hq;refine assign_Tuple_tuple (I.ok.hd hc) ht (by simp [hn,<- hl,rv.length]) hst fun h' hx=>?_;have I1:Inv X pins σ H { s with heap:=h' }:=I.kept (t':=s.toks) fun b o e=>hx b o (Nat.ne_of_lt (Heap.lt_size e)) e;exact h pins _ σ H xs _ Q I1 (by simpa using rv) hw
noncomputable def z9a (to ti:TE) (t:z67):TG:=fun v σ H Q=>to σ H fun o H1=>ti σ H1 fun i H2=>t o i v H2 fun H3=>Q σ H3
theorem zuf {o i:Expr}{to ti:TE}{t:z67} (ho:PE X o to) (hi:PE X i ti) (hs:z8z X t)
  (ha:∀ v,assign (.Subscript o i pos) X.env v=(do
   let ov <- holding [v] (eval o X.env)
   let iv <- holding [v,ov] (eval i X.env)
   standAt pos
   holding [v,ov,iv] (setItem ov iv v)
   release [v,ov,iv] []):=by intro _;rfl):PG X (.Subscript o i pos) (z9a to ti t):=by
 intro pins s σ H v u Q I r h;rw [ha];refine wpAny_bind (wpAny_holding (thn (ho pins s σ H _ I h) fun ov s1 ⟨x,H1,I1,r1,q1⟩=>?_));refine wpAny_bind (wpAny_holding (thn (hi pins s1 σ H1 _ I1 q1) fun iv s2 ⟨y,H2,I2,r2,q2⟩=>?_));refine wpAny_bind (wpAny_standAt (wpAny_bind (wpAny_holding (thn (hs pins s2 σ H2 x y v ov iv u _ I2 r1 r2 r q2) fun _ s3 ⟨H3,I3,q3⟩=>?_))));exact wpAny_release ⟨σ,H3,I3,q3⟩
noncomputable def z6q (te:TE) (g:TG):TS:=fun D σ H=>te σ H fun x H1=>g x σ H1 D.nx
theorem zy4 {tg e:Expr}{te:TE}{g:TG} (he:PE X e te) (hg:PG X tg g) (hs:swapsWithSole [tg] e pos.line X.env=pure false:=by rfl) (hw:swappedStores [tg] e X.env=pure none:=by rfl)
  (h1:(assignEach [tg] X.env).map (·.2)=[assign tg X.env]:=by rfl):PS X (.Assign [tg] e pos) (z6q te g):=by
 intro pins s σ H D I h;refine wpAny_Assign_stores (thn (he pins s σ H _ I h) fun v s1 ⟨x,H1,I1,r1,q1⟩=>?_) hs hw;rw [h1];exact thn (hg pins s1 σ H1 x v _ I1 r1 q1) fun _ s2 q=>q
theorem z4i {i:Nat}{x:Str}{e:Expr}{te:TE}{pos':Pos} (hN:X.N.Nodup) (hi:X.N[i]?=some x) (hx:Loc X.env.scope x) (he:PE X e te) (hs:swapsWith e (some (.Name x pos')) pos.line X.env=pure false:=by rfl) (hf:X.fn x=true\/X.env.scope.names.lookup x=some .local:=by first|exact .inl rfl|exact .inr rfl|assumption) :
  PS X (.Assign [.Name x pos'] e pos) (z6q te (ztt i)):=by
 intro pins s σ H D I h;refine wpAny_Assign_Name (thn (he pins s σ H _ I h) fun v s1 ⟨y,H1,I1,r1,q1⟩=>?_) hs;exact zks I1 hN hi hx r1 (fun s2 I2=>⟨_,H1,I2,q1⟩) hf
noncomputable def z9j (i j:Nat) (ta:TA):TS:=fun D σ H=>ta σ H fun vs H1=>∃ v w,vs=[v,w]/\D.nx ((σ.set i (some v)).set j (some w)) H1
theorem z11 {i j:Nat}{x y:Str}{a b:Expr}{ta:TA}{px py pt:Pos}{kt k2 pt2} (hc:X.calm=true) (hN:X.N.Nodup) (hi:X.N[i]?=some x) (hj:X.N[j]?=some y) (hij:i≠j)
  (hx:X.env.scope.names.lookup x=some .local) (hy:X.env.scope.names.lookup y=some .local) (ha:PA X [a,b] ta)
  (hw:swappedStores [.Tuple [.Name x px,.Name y py] kt pt] (.Tuple [a,b] k2 pt2) X.env=pure (some [x,y]))
  (hs:swapsWithSole [.Tuple [.Name x px,.Name y py] kt pt] (.Tuple [a,b] k2 pt2) pos.line X.env=pure false:=by rfl) :
  PS X (.Assign [.Tuple [.Name x px,.Name y py] kt pt] (.Tuple [a,b] k2 pt2) pos) (z9j i j ta):=by
 intro pins s σ H D I h;rw [exec_Assign_arm];refine wpAny_bind (wpAny_standAt ?_);rw [hs];refine wpAny_bind (wpAny_pure ?_);rw [if_neg (by decide)];refine wpAny_bind (Tuple_ (thn (ha _ pins s σ H _ I h) fun us s1 ⟨vs,H1,I1,r1,q1⟩=>?_));obtain ⟨v,w,e1,q1⟩:=q1;subst e1;obtain ⟨u1,u2,rfl,rv,rw'⟩:∃ u1 u2,us=[u1,u2]/\RelV v u1/\RelV w u2:=by
  cases r1 with
  |cons p q =>
   cases q with
   |cons p' q' =>
    cases q'
    exact ⟨_,_,rfl,p,p'⟩
 refine wpAny_newObj_type ?_ (by show 2<=sizeLine;decide);have I2:Inv X pins σ H1 { s1 with heap:=s1.heap.push { cls:=.type "tuple",data:=.seq [u1,u2].toArray } }:=I1.kept (t':=s1.toks) fun b o e=>Heap.get?_push_of_some _ e;rw [hw];refine wpAny_bind (wpAny_pure ?_);show wpAny (model X.prog X.w) X.A (do rule "assign.swapped-stores";let items <- unpackItems (.ref s1.heap.objs.size) 2 none;assignInOrder [fun v=>bindName X.env y v,fun v=>bindName X.env x v] items.reverse;pure Flow.next) _ _ _
 refine wpAny_bind (wpAny_rule (wpAny_bind (unpackItems_tuple (items:=#[u1,u2]) (I.ok.hd hc) (IsTup.new s1.heap _) fun h' hx'=>?_)));have I3:=I2.kept (h':=h') (t':=s1.toks) fun b o e=>hx' b o (Nat.ne_of_lt (Heap.lt_size e)) e;show wpAny _ _ (assignInOrder [fun v=>bindName X.env y v,fun v=>bindName X.env x v] [u2,u1] >>= fun _=>pure Flow.next) _ _ _
 refine wpAny_bind (assignInOrder_cons (wpAny_bindName (zks I3 hN hj (.inl hy) rw' (fun s2 I4=>?_) (.inr hy))));refine assignInOrder_cons (wpAny_bindName (zks I4 hN hi (.inl hx) rv (fun s3 I5=>assignInOrder_nil (wpAny_pure ?_)) (.inr hx)));rw [List.set_comm _ _ (Ne.symm hij)] at I5;exact ⟨_,H1,I5,q1⟩
noncomputable def z79 (i:Nat) (te:TE) (ti:TIp):TS:=fun D σ H=>∃ x,σ[i]?=some (some x)/\te σ H fun y H1=>ti x y H1 fun z H2=>D.nx (σ.set i (some z)) H2
theorem zoz {i:Nat}{x:Str}{e:Expr}{te:TE}{op:Operator}{ti:TIp}{pos':Pos} (hN:X.N.Nodup) (hi:X.N[i]?=some x) (hx:Loc X.env.scope x) (he:PE X e te) (ho:PIp X op ti) (hf:X.fn x=true\/X.env.scope.names.lookup x=some .local:=by first|exact .inl rfl|exact .inr rfl|assumption) :
  PS X (.AugAssign (.Name x pos') op e pos) (z79 i te ti):=by
 intro pins s σ H D I h;obtain ⟨v,e1,h⟩:=h;obtain ⟨m,hn,hl⟩:=I.loc;have vis:Vis X.env.scope x:=by rcases hx with k|k;exact .inl k;exact .inr (.inl k)
 obtain ⟨u,r,l⟩:=hl i x v hi e1 vis;refine wpAny_AugAssign_Name ?_;have go:wpAny (model X.prog X.w) X.A (eval e X.env) (fun w s₂=>wpAny (model X.prog X.w) X.A (inplaceOp op u w) (fun r s₃=>wpAny (model X.prog X.w) X.A (storeName X.env x r) (fun _=>SP X pins D .next) X.xe s₃) X.xe s₂) X.xe s:=by
  refine thn (he pins s σ H _ I h) fun w s1 ⟨y,H1,I1,r1,q1⟩=>?_;refine thn (ho pins s1 σ H1 v y u w _ I1 r r1 q1) fun z s2 ⟨zv,H2,I2,r2,q2⟩=>?_;exact zks I2 hN hi hx r2 (fun s3 I3=>⟨_,H2,I3,q2⟩) hf
 rcases l with ⟨hk,hm⟩|⟨hk,c,hc,hcell⟩
 ·exact wpAny_loadName_local I.ok.kind hk hn hm go
 ·rcases hk with hk|hk
  ·exact wpAny_loadName_cell I.ok.kind hk hc hcell go
  ·rcases hx with k|k
   ·have:X.env.scope.names.lookup x=some .free:=hk;rw [k] at this;cases this
   ·have:X.env.scope.names.lookup x=some .free:=hk;rw [k] at this;cases this
noncomputable def z92 (X:Cx) (t:V->V->Hp->VK->Prop):Prop :=
 ∀ (pins:List (Addr×Obj)) (s:Shared) (σ:St) (H:Hp) (o i:V) (ov iv:Value) (Q:VK),Inv X pins σ H s->RelV o ov->RelV i iv->t o i H Q ->
  wpAny (model X.prog X.w) X.A (getItem ov iv) (EP X pins σ Q) X.xe s
noncomputable def ipI (f:Int->Int->Int):TIp:=fun x y H Q=>∃ i j,x=.int i/\y=.int j/\Q (.int (f i j)) H
theorem z19:PIp X .Add (ipI fun i j=>i+j):=by
 intro pins s σ H x y v u Q I r1 r2 h;obtain ⟨i,j,e1,e2,q⟩:=h;subst e1;subst e2;obtain ⟨t,rfl⟩:=r1;obtain ⟨t',rfl⟩:=r2;exact iadd_int ⟨.int _,H,I.tok _,⟨_,rfl⟩,q⟩
theorem zuv:PIp X .Sub (ipI fun i j=>i-j):=by
 intro pins s σ H x y v u Q I r1 r2 h;obtain ⟨i,j,e1,e2,q⟩:=h;subst e1;subst e2;obtain ⟨t,rfl⟩:=r1;obtain ⟨t',rfl⟩:=r2;exact isub_int ⟨.int _,H,I.tok _,⟨_,rfl⟩,q⟩
end
section
variable {X:Cx}{pos:Pos}
noncomputable def z2i (c:TT) (tb:TS):TS:=fun D σ H=>∃ W:Nat->St->Hp->Prop,(∃ m,W m σ H)/\∀ m σ H,W m σ H ->
 c σ H fun b H1=>if b=true then ∃ N:St->Hp->Prop,(∀ σ' H',N σ' H'->∃ m',m'<m/\W m' σ' H')/\tb { D with nx:=N,ct:=N,bk:=D.nx } σ H1 else D.nx σ H1
theorem zjx {c:Expr}{body:List Stmt}{tc:TT}{tb:TS} (hp:PassesOwn (model X.prog X.w) X.A X.env X.xe) (hc:PT X c tc) (hb:PSs X body tb):PS X (.While c body [] pos) (z2i tc tb):=by
 intro pins s σ H D I h;obtain ⟨W,⟨m0,w0⟩,turn⟩:=h;refine wpAny_While (codeAny_whileLoop (fun n s'=>∃ σ' H',Inv X pins σ' H' s'/\W n σ' H') ?_ m0 ⟨σ,H,I,w0⟩);rintro n s1 ⟨σ1,H1,I1,w1⟩;refine wpAny_passesOwn hp (thn (hc pins s1 σ1 H1 _ I1 (turn n σ1 H1 w1)) fun b s2 ⟨H2,I2,q2⟩=>?_);cases b with
 |true =>
  obtain ⟨N,hN,q2⟩:=q2;rw [if_pos rfl];refine wpAny_passesOwn hp (thn (hb pins s2 σ1 H2 _ I2 q2) fun f s3 q3=>?_);cases f with
  |next =>
   obtain ⟨σ3,H3,I3,n3⟩:=q3;obtain ⟨m',hm,w3⟩:=hN σ3 H3 n3;exact ⟨m',hm,σ3,H3,I3,w3⟩
  |cont =>
   obtain ⟨σ3,H3,I3,n3⟩:=q3;obtain ⟨m',hm,w3⟩:=hN σ3 H3 n3;exact ⟨m',hm,σ3,H3,I3,w3⟩
  |brk=>exact q3
  |ret v=>exact q3
 |false =>
  rw [if_neg Bool.false_ne_true];exact wpAny_execs_nil ⟨σ1,H2,I2,q2⟩
end
structure It where
 go:Nat->Hp->Prop
 yld:Nat->Hp->V->Hp->Prop
 stop:Nat->Hp->Prop
noncomputable def zwr (X:Cx) (pins:List (Addr×Obj)) (H:Hp) (b:Addr):Prop :=
 H b=none/\b≠X.env.locals/\b∉X.fs/\(b∈X.ex\/X.s₀.heap.objs.size<=b)/\(∀ x c,X.env.cells.lookup x=some c->c≠b)/\∀ p∈X.pn++pins,p.1≠b
theorem Inv.fpOk {X:Cx}{pins:List (Addr×Obj)}{σ:St}{H H':Hp}{s:Shared}{b:Addr} (I:Inv X pins σ H s) (hb:s.heap.objs.size<=b) (hn:H' b=none):zwr X pins H' b:=by
 refine ⟨hn,Nat.ne_of_gt (Nat.lt_of_lt_of_le I.lt hb),I.nofs hb,.inr (Nat.le_trans I.sz hb),fun x c e z=>?_,fun p hp z=>?_⟩
 ·obtain ⟨v,q⟩:=I.cell x c e;exact absurd (Nat.lt_of_lt_of_le q.lt (by rw [z];exact hb)) (Nat.lt_irrefl _)
 ·exact absurd (Nat.lt_of_lt_of_le (Heap.lt_size (I.pin p hp).1) (by rw [z];exact hb)) (Nat.lt_irrefl _)
structure Turn (P:Program) (w:World) (K:PySem.W.Frag) (tg:Expr) (J:It) (fp:List Addr) (it:Addr) (tn:Nat->Heap->Prop):Prop where
 mem:it∈fp
 obj:∀ i h,tn i h->∀ b∈fp,∃ o,h.get? b=some o/\∀ v,o.data≠.cell v
 keep:∀ i h h',tn i h->(∀ b∈fp,∀ o,h.get? b=some o->h'.get? b=some o)->tn i h'
 item:∀ (X:Cx),X.prog=P->X.w=w->X.K=K->X.calm=true->∀ (i:Nat) (pins:List (Addr×Obj)) (s:Shared) (σ:St) (H:Hp) (E:Value->Shared->Prop),Inv X pins σ H s->(∀ b∈fp,zwr X pins H b)->tn i s.heap->J.go i H ->
  wpAny (model P w) X.A (pyNext (.ref it)) (fun r s1=>∃ u,r=some u /\
   wpAny (model P w) X.A (letOwnedTupleGo tg (.ref it) u) (fun _ s2=>∃ x H',Inv X pins σ H' s2/\RelV x u/\J.yld i H x H'/\tn (i+1) s2.heap/\∀ b∈fp,H' b=none) E s1) E s
 done:∀ (X:Cx),X.prog=P->X.w=w->X.K=K->X.calm=true->∀ (i:Nat) (pins:List (Addr×Obj)) (s:Shared) (σ:St) (H:Hp) (E:Value->Shared->Prop),Inv X pins σ H s->(∀ b∈fp,zwr X pins H b)->tn i s.heap->J.stop i H ->
  wpAny (model P w) X.A (pyNext (.ref it)) (fun r s1=>r=none/\Inv X pins σ H s1) E s
 self:∀ (A:Around) (i:Nat) (s:Shared) (Q:Value->Shared->Prop) (E:Value->Shared->Prop),tn i s.heap->Q (.ref it) s->wpAny (model P w) A (pyIter (.ref it)) Q E s
noncomputable abbrev TI:=St->Hp->(It->Hp->Prop)->Prop
noncomputable def PIE (X:Cx) (pins:List (Addr×Obj)) (σ:St) (tg:Expr) (R:It->Hp->Prop) (itv:Value) (s2:Shared):Prop :=
 ∃ (it:Addr) (fp:List Addr) (tn:Nat->Heap->Prop) (J:It) (H':Hp),itv=.ref it/\Inv X pins σ H' s2/\Turn X.prog X.w X.K tg J fp it tn/\tn 0 s2.heap/\(∀ b∈fp,zwr X pins H' b)/\R J H'
noncomputable def PI (X:Cx) (tg iter:Expr) (wi:TI):Prop :=
 ∀ (pins:List (Addr×Obj)) (s:Shared) (σ:St) (H:Hp) (R:It->Hp->Prop),Inv X pins σ H s->wi σ H R ->
  wpAny (model X.prog X.w) X.A (eval iter X.env) (fun v s1=>wpAny (model X.prog X.w) X.A (pyIter v) (PIE X pins σ tg R) X.xe s1) X.xe s
theorem z29 {M:Model}{A:Around}{E:Value->Shared->Prop}{s:Shared}{tg:Expr}{it:Addr}{u:Value}{o:Obj}{n:String}{vs:Array Value}{Q:Unit->Shared->Prop} (ho:s.heap.get? it=some o) (hc:o.cls=.type n) (hd:o.data=.fields vs)
  (hn:["enumerate","zip","dict_itemiterator","dict_reverseitemiterator","odict_iterator","itertools.zip_longest","itertools.pairwise"].contains n=false) (hQ:Q () s):wpAny M A (letOwnedTupleGo tg (.ref it) u) Q E s:=by
 unfold letOwnedTupleGo;cases tg<;>first
  |exact wpAny_pure hQ
  |(cases u<;>first
    |exact wpAny_pure hQ
    |(refine wpAny_bind (wpAny_load ho ?_)
      rw [hc,hd]
      show wpAny M A (if (["enumerate","zip","dict_itemiterator","dict_reverseitemiterator","odict_iterator","itertools.zip_longest","itertools.pairwise"].contains n&&vs[0]?==some (rawInt _))=true then _ else _) Q E s
      rw [if_neg (by intro h;rw [hn,Bool.false_and] at h;cases h)]
      exact wpAny_pure hQ))
noncomputable def Itl (K:PySem.W.Frag) (a:Addr):It :=
 ⟨fun i H=>∃ xs x,SqL K H a xs/\xs[i]?=some x,fun i H x H'=>H'=H/\∀ xs,SqL K H a xs->xs[i]?=some x,fun i H=>∃ xs,SqL K H a xs/\xs.length<=i⟩
noncomputable def Itr (lo:Int) (n:Nat):It:=⟨fun i _=>i<n,fun i H x H'=>H'=H/\x=.int (lo+i),fun i _=>n<=i⟩
theorem zzf {P:Program}{w:World}{K:PySem.W.Frag}{tg:Expr} (a it:Addr):Turn P w K tg (Itl K a) [it] it (fun i h=>h.IsListIter it a i) where
 mem:=by simp
 obj:=fun i h st b hb=>by
  have e:b=it:=by simpa using hb
  subst e;obtain ⟨o,e,c,d⟩:=st;exact ⟨o,e,fun v z=>by rw [d] at z;cases z⟩
 keep:=fun i h h' st k=>st.at fun o e=>k it (by simp) o e
 item:=by
  intro X hP hw hK hc i pins s σ H E I hf st hg;subst hP hw hK;obtain ⟨xs,x,hq,hx⟩:=hg;obtain ⟨its,rv,p,hz⟩:=I.list hq;obtain ⟨u,hu,ru⟩:=rv.get hx;obtain ⟨f0,f1,f2,f3,f4,f5⟩:=hf it (by simp);refine wpAny_pyNext_list_item st p.isList (x:=u) (by simpa using hu) fun h' st' sb=>?_;have I1:Inv X pins σ H { s with heap:=h' }:=I.turned (t':=s.toks) (fun b o hb e=>(sb.2 b hb).trans e) f0 f1 f3 f4 f5;obtain ⟨o,e,c,d⟩:=id st';exact ⟨u,rfl,z29 (s:={ s with heap:=h' }) e c d (by decide) ⟨x,H,I1,ru,⟨rfl,fun ys hy=>by rw [I.list_inj hy hq];exact hx⟩,st',fun b hb=>(hf b hb).1⟩⟩
 done:=by
  intro X hP hw hK hc i pins s σ H E I hf st hg;subst hP hw hK;obtain ⟨xs,hq,hx⟩:=hg;obtain ⟨its,rv,p,hz⟩:=I.list hq;obtain ⟨f0,f1,f2,f3,f4,f5⟩:=hf it (by simp);have hl:=rv.length;exact wpAny_pyNext_list_end (I.ok.hd hc) st p.isList (by simp;lia) fun h' eb=>⟨rfl,I.turned (t':=s.toks) (fun b o hb e=>eb b o hb e) f0 f1 f3 f4 f5⟩
 self:=fun _ _ _ _ _ st h=>wpAny_pyIter_listiter st h
theorem zvs {P:Program}{w:World}{K:PySem.W.Frag}{tg:Expr} (it:Addr) (lo:Int) (n:Nat):Turn P w K tg (Itr lo n) [it] it (fun i h=>IsRangeIter h it (lo+(i:Nat)*1) ((n:Int)-(i:Nat)) 1) where
 mem:=by simp
 obj:=fun i h st b hb=>by
  have e:b=it:=by simpa using hb
  subst e;exact ⟨_,st,fun v z=>by
   have z':Data.fields _=Data.cell v:=z
   cases z'⟩
 keep:=fun i h h' st k=>k it (by simp) _ st
 item:=by
  intro X hP hw hK hc i pins s σ H E I hf st hg;subst hP hw hK;obtain ⟨f0,f1,f2,f3,f4,f5⟩:=hf it (by simp);have W:=Walks.range (prog:=X.prog) (w:=X.w) (I.ok.hd hc) it lo 1 n;refine W.item i s _ _ hg st fun v h' tk hv st' kk=>?_;obtain ⟨t,rfl⟩:=hv;have I1:Inv X pins σ H { s with heap:=h',toks:=tk }:=I.turned (fun b o hb e=>kk b o (by simpa using hb) e) f0 f1 f3 f4 f5;refine ⟨_,rfl,z29 (s:={ s with heap:=h',toks:=tk }) (n:="range_iterator") st' rfl rfl (by decide) ⟨.int (lo+i),H,I1,⟨t,?_⟩,⟨rfl,rfl⟩,st',fun b hb=>(hf b hb).1⟩⟩;rw [Int.mul_one]
 done:=by
  intro X hP hw hK hc i pins s σ H E I hf st hg;subst hP hw hK;obtain ⟨f0,f1,f2,f3,f4,f5⟩:=hf it (by simp);exact wpAny_pyNext_range_end (I.ok.hd hc) st (by have:n<=i:=hg;lia) fun h' eb=>⟨rfl,I.turned (t':=s.toks) (fun b o hb e=>eb b o hb e) f0 f1 f3 f4 f5⟩
 self:=fun _ _ _ _ _ st h=>wpAny_pyIter_rangeiter st h
section
variable {X:Cx}{tg:Expr}
noncomputable def z4t (K:PySem.W.Frag) (tl:TE):TI:=fun σ H R=>tl σ H fun x H1=>∃ a,x=.ref a/\(∃ xs,SqL K H1 a xs)/\R (Itl K a) H1
theorem qb {l:Expr}{tl:TE} (hl:PE X l tl):PI X tg l (z4t X.K tl):=by
 intro pins s σ H R I h;refine thn (hl pins s σ H _ I h) fun v s1 ⟨x,H1,I1,r1,q1⟩=>?_;obtain ⟨a,e,⟨xs,hq⟩,q⟩:=q1;subst e;cases r1
 obtain ⟨its,rv,p,hz⟩:=I1.list hq;refine wpAny_pyIter_list p.isList ?_;refine ⟨s1.heap.objs.size,[s1.heap.objs.size],_,_,H1,rfl,I1.kept (t':=s1.toks) fun b o e=>Heap.get?_push_of_some _ e,zzf a _,⟨_,Heap.get?_push_size _ rfl,rfl,rfl⟩,fun b hb=>?_,q⟩;have e:b=s1.heap.objs.size:=by simpa using hb
 subst e;exact I1.fpOk (Nat.le_refl _) (I1.hok.fresh (Nat.le_refl _))
theorem z03 {pins:List (Addr×Obj)}{σ:St}{H:Hp}{s:Shared}{R:It->Hp->Prop}{E:Value->Shared->Prop}{lo hi:Int}{t u v:Tok}{tk:Nat} (I:Inv X pins σ H s) (h1:-(2 ^ 62)<=lo) (h2:lo<2 ^ 62) (h3:-(2 ^ 62)<=hi) (h4:hi<2 ^ 62)
  (q:R (Itr lo (hi-lo).toNat) H):wpAny (model X.prog X.w) X.A (pyIter (.ref s.heap.objs.size)) (PIE X pins σ tg R) E { s with heap:=s.heap.push { cls:=.type "range",data:=.fields #[.int lo t,.int hi u,.int 1 v] },toks:=tk }:=by
 refine wpAny_pyIter_range (IsRange.new ..) (small_one h1 h2 h3 h4) ?_;have I1:Inv X pins σ H { s with heap:=s.heap.push { cls:=.type "range",data:=.fields #[.int lo t,.int hi u,.int 1 v] },toks:=tk }:=I.kept fun b o e=>Heap.get?_push_of_some _ e;refine ⟨(s.heap.push { cls:=.type "range",data:=.fields #[.int lo t,.int hi u,.int 1 v] }).objs.size,[(s.heap.push { cls:=.type "range",data:=.fields #[.int lo t,.int hi u,.int 1 v] }).objs.size],_,_,H,rfl,
  I1.kept (t':=tk) fun b o e=>Heap.get?_push_of_some _ e,zvs _ lo (hi-lo).toNat,?_,fun b hb=>?_,q⟩
 ·have e1:lo+((0:Nat):Int)*1=lo:=by simp
  have e2:(((hi-lo).toNat:Nat):Int)-((0:Nat):Int)=Builtin.Range.rangeSize lo hi 1:=by rw [rangeSize_one];split<;>lia
  show IsRangeIter _ _ (lo+((0:Nat):Int)*1) ((((hi-lo).toNat:Nat):Int)-((0:Nat):Int)) 1
  rw [e1,e2];exact Heap.get?_push_size _ rfl
 ·have e:b=(s.heap.push { cls:=.type "range",data:=.fields #[.int lo t,.int hi u,.int 1 v] }).objs.size:=by simpa using hb
  subst e;exact I1.fpOk (Nat.le_refl _) (I1.hok.fresh (Nat.le_refl _))
noncomputable def z64 (ta:TA):TI:=fun σ H R=>ta σ H fun vs H1=>∃ j:Int,vs=[.int j]/\-(2 ^ 62)<=j/\j<2 ^ 62/\R (Itr 0 j.toNat) H1
theorem zg2 {a:Expr}{ta:TA}{p pos:Pos} (hg:Gl X "range") (hm:X.mg "range"=none) (ha:PA X [a] ta) (hs:starEach [a] X.env=[(false,eval a X.env)]:=by rfl):PI X tg (.Call (.Name "range" p) [a] [] pos) (z64 ta):=by
 intro pins s σ H R I h;refine Call_ (ziy I hg hm boot_range (PyProof.Rows.callWith_type1 (thn (ha pos pins s σ H _ I h) fun us s1 ⟨vs,H1,I1,r1,q1⟩=>?_) hs rfl));obtain ⟨j,e,q1,q2,q⟩:=q1;subst e;cases r1 with
 |cons r rr =>
  cases rr
  obtain ⟨t,rfl⟩:=r;exact call_range_1 (z03 I1 (by lia) (by lia) q1 q2 (by simpa using q))
noncomputable def z9l (wi:TI) (g:TG) (tb:TS):TS:=fun D σ H=>wi σ H fun J H1=>∃ W:Nat->Nat->St->Hp->Prop,(∃ m,W 0 m σ H1)/\∀ i m σ H,W i m σ H ->
 (J.stop i H/\D.nx σ H)\/(J.go i H/\∃ N:St->Hp->Prop,(∀ σ' H',N σ' H'->∃ m',m'<m/\W (i+1) m' σ' H')/\∀ x H',J.yld i H x H'->g x σ H' fun σ2 H2=>tb { D with nx:=N,ct:=N,bk:=D.nx } σ2 H2)
noncomputable def zpa (fp:List Addr) (h:Heap):List (Addr×Obj):=fp.filterMap fun b=>(h.get? b).map fun o=>(b,o)
theorem zib {fp:List Addr}{h:Heap}{b:Addr}{o:Obj} (hb:b∈fp) (e:h.get? b=some o):(b,o)∈zpa fp h:=List.mem_filterMap.mpr ⟨b,hb,by rw [e];rfl⟩
theorem zxb {fp:List Addr}{h:Heap}{p:Addr×Obj} (hp:p∈zpa fp h):p.1∈fp/\h.get? p.1=some p.2:=by
 obtain ⟨b,hb,e⟩:=List.mem_filterMap.mp hp;cases q:h.get? b with
 |none=>rw [q] at e;cases e
 |some o =>
  rw [q] at e;have e':(b,o)=p:=Option.some.inj e;subst e';exact ⟨hb,q⟩
theorem Inv.pinned {pins:List (Addr×Obj)}{σ:St}{H:Hp}{s:Shared}{fp:List Addr} (I:Inv X pins σ H s) (hf:∀ b∈fp,zwr X pins H b) (ho:∀ b∈fp,∃ o,s.heap.get? b=some o/\∀ v,o.data≠.cell v):Inv X (pins++zpa fp s.heap) σ H s :=
 I.pins_of fun p hp=>(List.mem_append.mp hp).elim (fun z=>I.pin p (List.mem_append_right _ z)) fun z=>by
  obtain ⟨hb,e⟩:=zxb z;obtain ⟨f0,f1,f2,_⟩:=hf p.1 hb;obtain ⟨o,e',d⟩:=ho p.1 hb;rw [e] at e';cases e';exact ⟨e,f0,f1,f2,d⟩
theorem Inv.unpinned {pins pl:List (Addr×Obj)}{σ:St}{H:Hp}{s:Shared} (I:Inv X (pins++pl) σ H s):Inv X pins σ H s:=I.pins_of fun p hp=>I.pin p (List.mem_append_right _ (List.mem_append_left _ hp))
theorem vq {iter:Expr}{body:List Stmt}{wi:TI}{g:TG}{tb:TS}{pos:Pos} (hp:PassesOwn (model X.prog X.w) X.A X.env X.xe) (hc:X.calm=true) (hi:PI X tg iter wi) (hg:PG X tg g) (hb:PSs X body tb)
  (hs:∀ x,foldedSetIterable iter X.env x=pure x:=by intro _;rfl):PS X (.For tg iter body [] pos) (z9l wi g tb):=by
 intro pins s σ H D I h;refine wpAny_For (thn (hi pins s σ H _ I h) fun v s1 h1=>thn h1 fun itv s2 h2=>?_) hs;obtain ⟨it,fp,tn,J,H2,e,I2,T,st2,f2,W,⟨m0,w0⟩,turn⟩:=h2;subst e
 -- what stays true of the iterator's objects through the loop
 have stat:∀ {H':Hp},(∀ b∈fp,H' b=none)->∀ b∈fp,zwr X pins H' b:=fun hn b hb=>⟨hn b hb,(f2 b hb).2⟩
 refine codeAny_forLoop_any (fun n s'=>∃ i σ' H',Inv X pins σ' H' s'/\tn i s'.heap/\(∀ b∈fp,H' b=none)/\W i n σ' H') ?_ m0 ⟨0,σ,H2,I2,st2,fun b hb=>(f2 b hb).1,w0⟩;rintro n s3 ⟨i,σ3,H3,I3,st3,fr3,w3⟩;rcases turn i n σ3 H3 w3 with ⟨stop,qn⟩|⟨go,N,hN,step⟩
 ·refine wpAny_passesOwn hp (thn (T.done X rfl rfl rfl hc i pins s3 σ3 H3 X.xe I3 (stat fr3) st3 stop) fun r s4 ⟨hr,I4⟩=>?_);subst hr;exact wpAny_execs_nil ⟨σ3,H3,I4,qn⟩
 ·refine wpAny_passesOwn hp (thn (T.item X rfl rfl rfl hc i pins s3 σ3 H3 X.xe I3 (stat fr3) st3 go) fun r s4 ⟨u,hr,h4⟩=>?_);subst hr;refine wpAny_passesOwn hp (thn h4 fun _ s5 ⟨x,H5,I5,r5,y5,st5,fr5⟩=>?_);have I5':=I5.pinned (stat fr5) (T.obj _ _ st5);refine wpAny_passesOwn hp (thn (hg _ s5 σ3 H5 x u _ I5' r5 (step x H5 y5)) fun _ s6 ⟨σ6,H6,I6,q6⟩=>?_);refine wpAny_passesOwn hp (thn (hb _ s6 σ6 H6 _ I6 q6) fun f s7 q7=>?_);have again:∀ {σ7:St} {H7:Hp},Inv X (pins++zpa fp s5.heap) σ7 H7 s7->N σ7 H7->∃ m,m<n/\∃ i σ' H',Inv X pins σ' H' s7/\tn i s7.heap/\(∀ b∈fp,H' b=none)/\W i m σ' H':=fun {σ7 H7} I7 n7=>by
   obtain ⟨m',hm,w7⟩:=hN σ7 H7 n7;refine ⟨m',hm,i+1,σ7,H7,I7.unpinned,T.keep _ _ _ st5 fun b hb o e=>(I7.pin (b,o) (List.mem_append_right _ (List.mem_append_right _ (zib hb e)))).1,fun b hb=>?_,w7⟩;obtain ⟨o,e,d⟩:=T.obj _ _ st5 b hb;exact (I7.pin (b,o) (List.mem_append_right _ (List.mem_append_right _ (zib hb e)))).2.1
  cases f with
  |next=>obtain ⟨σ7,H7,I7,n7⟩:=q7;exact again I7 n7
  |cont=>obtain ⟨σ7,H7,I7,n7⟩:=q7;exact again I7 n7
  |brk=>obtain ⟨σ7,H7,I7,q7⟩:=q7;exact ⟨σ7,H7,I7.unpinned,q7⟩
  |ret v=>obtain ⟨x7,σ7,H7,I7,r7,q7⟩:=q7;exact ⟨x7,σ7,H7,I7.unpinned,r7,q7⟩
end
noncomputable abbrev R2:=V->V->Hp->VK->Prop
noncomputable def OpR (X:Cx) (f:Value->Value->Sem Value) (r:R2):Prop :=
 ∀ (pins:List (Addr×Obj)) (s:Shared) (σ:St) (H:Hp) (x y:V) (v u:Value) (Q:VK),Inv X pins σ H s->RelV x v->RelV y u->r x y H Q ->
  wpAny (model X.prog X.w) X.A (f v u) (EP X pins σ Q) X.xe s
noncomputable def UnR (X:Cx) (f:Value->Sem Value) (r:V->Hp->VK->Prop):Prop :=
 ∀ (pins:List (Addr×Obj)) (s:Shared) (σ:St) (H:Hp) (x:V) (v:Value) (Q:VK),Inv X pins σ H s->RelV x v->r x H Q ->
  wpAny (model X.prog X.w) X.A (f v) (EP X pins σ Q) X.xe s
noncomputable def zca (X:Cx) (f:Value) (r:List V->Hp->VK->Prop):Prop :=
 ∀ (pins:List (Addr×Obj)) (s:Shared) (σ:St) (H:Hp) (xs:List V) (us:List Value) (Q:VK),Inv X pins σ H s->Vals xs us->r xs H Q ->
  wpAny (model X.prog X.w) X.A (call f us) (EP X pins σ Q) X.xe s
noncomputable def qao (X:Cx) (r:V->Hp->(Bool->Hp->Prop)->Prop):Prop :=
 ∀ (pins:List (Addr×Obj)) (s:Shared) (σ:St) (H:Hp) (x:V) (v:Value) (Q:Bool->Hp->Prop),Inv X pins σ H s->RelV x v->r x H Q ->
  wpAny (model X.prog X.w) X.A (truthy v) (TP X pins σ Q) X.xe s
noncomputable def tOp (r:R2) (ta tb:TE):TE:=fun σ H Q=>ta σ H fun x H1=>tb σ H1 fun y H2=>r x y H2 Q
noncomputable def tUn (r:V->Hp->VK->Prop) (ta:TE):TE:=fun σ H Q=>ta σ H fun x H1=>r x H1 Q
noncomputable def rI (C:Int->Int->Prop) (g:Int->Int->V):R2:=fun x y H Q=>∃ i j,x=.int i/\y=.int j/\C i j/\Q (g i j) H
noncomputable def rI0 (g:Int->Int->V):R2:=fun x y H Q=>∃ i j,x=.int i/\y=.int j/\Q (g i j) H
noncomputable def rU (g:Int->V):V->Hp->VK->Prop:=fun x H Q=>∃ i,x=.int i/\Q (g i) H
section
variable {X:Cx}{a b c:Expr}{ta tb tc:TE}{pos:Pos}
theorem z7i (ha:PE X a ta) (hb:PE X b tb) {pins:List (Addr×Obj)}{s:Shared}{σ:St}{H:Hp}{R:V->V->Hp->Prop} (I:Inv X pins σ H s)
  (h:ta σ H fun x H1=>tb σ H1 fun y H2=>R x y H2) {Q:Value->Shared->Prop} {f:Value->Value->Sem Value}
  (hf:∀ v u s2 x y H2,Inv X pins σ H2 s2->RelV x v->RelV y u->R x y H2->wpAny (model X.prog X.w) X.A (f v u) Q X.xe s2) :
  wpAny (model X.prog X.w) X.A (eval a X.env) (fun v s₁=>wpAny (model X.prog X.w) X.A (eval b X.env) (fun u s₂=>wpAny (model X.prog X.w) X.A (f v u) Q X.xe s₂) X.xe s₁) X.xe s:=by
 refine thn (ha pins s σ H _ I h) fun v s1 ⟨x,H1,I1,r1,q1⟩=>?_;refine thn (hb pins s1 σ H1 _ I1 q1) fun u s2 ⟨y,H2,I2,r2,q2⟩=>?_;exact hf v u s2 x y H2 I2 r1 r2 q2
theorem z9 {op:Operator}{r:R2} (ho:OpR X (binaryOp op) r) (ha:PE X a ta) (hb:PE X b tb):PE X (.BinOp a op b pos) (tOp r ta tb):=by
 intro pins s σ H Q I h;exact wpAny_BinOp (z7i ha hb I h fun v u s2 x y H2 I2 rx ry q=>ho pins s2 σ H2 x y v u Q I2 rx ry q)
theorem zdh {op:UnaryOp}{r:V->Hp->VK->Prop} (ho:UnR X (unaryOp op) r) (ha:PE X a ta):PE X (.UnaryOp op a pos) (tUn r ta):=by
 intro pins s σ H Q I h;exact UnaryOp_ (thn (ha pins s σ H _ I h) fun v s1 ⟨x,H1,I1,r1,q1⟩=>ho pins s1 σ H1 x v Q I1 r1 q1)
theorem opI {f:Value->Value->Sem Value}{C:Int->Int->Prop}{g:Int->Int->Int}
  (rule:∀ (i j:Int) (t u:Tok) (s:Shared) (Q:Value->Shared->Prop) (E:Value->Shared->Prop),C i j->Q (.int (g i j) s.toks) { s with toks:=s.toks+1 }->wpAny (model X.prog X.w) X.A (f (.int i t) (.int j u)) Q E s) :
  OpR X f (rI C fun i j=>.int (g i j)):=by
 intro pins s σ H x y v u Q I rx ry h;obtain ⟨i,j,rfl,rfl,hc,q⟩:=h;obtain ⟨t,rfl⟩:=rx;obtain ⟨t',rfl⟩:=ry;exact rule i j t t' s _ _ hc ⟨.int (g i j),H,I.tok _,⟨_,rfl⟩,q⟩
theorem z87 {f:Value->Value->Sem Value}{g:Int->Int->Int}
  (rule:∀ (i j:Int) (t u:Tok) (s:Shared) (Q:Value->Shared->Prop) (E:Value->Shared->Prop),Q (.int (g i j) s.toks) { s with toks:=s.toks+1 }->wpAny (model X.prog X.w) X.A (f (.int i t) (.int j u)) Q E s) :
  OpR X f (rI0 fun i j=>.int (g i j)):=by
 intro pins s σ H x y v u Q I rx ry h;obtain ⟨i,j,rfl,rfl,q⟩:=h;obtain ⟨t,rfl⟩:=rx;obtain ⟨t',rfl⟩:=ry;exact rule i j t t' s _ _ ⟨.int (g i j),H,I.tok _,⟨_,rfl⟩,q⟩
theorem z68 {f:Value->Value->Sem Value}{g:Int->Int->Bool}
  (rule:∀ (i j:Int) (t u:Tok) (s:Shared) (Q:Value->Shared->Prop) (E:Value->Shared->Prop),Q (.bool (g i j)) s->wpAny (model X.prog X.w) X.A (f (.int i t) (.int j u)) Q E s) :
  OpR X f (rI0 fun i j=>.bl (g i j)):=by
 intro pins s σ H x y v u Q I rx ry h;obtain ⟨i,j,rfl,rfl,q⟩:=h;obtain ⟨t,rfl⟩:=rx;obtain ⟨t',rfl⟩:=ry;exact rule i j t t' s _ _ ⟨.bl (g i j),H,I,rfl,q⟩
noncomputable def qab (i j:Int):Prop:=0<j/\j<1073741824
noncomputable def z98 (i j:Int):Prop:=0<=j/\j<=1000000/\i.natAbs<2 ^ 64
theorem z5h:OpR X (binaryOp .Add) (rI0 fun i j=>.int (i+j)):=z87 fun _ _ _ _ _ _ _ q=>add_int q
theorem zak:OpR X (binaryOp .Sub) (rI0 fun i j=>.int (i-j)):=z87 fun _ _ _ _ _ _ _ q=>sub_int q
theorem zjk:OpR X (binaryOp .FloorDiv) (rI qab fun i j=>.int (i/j)):=opI fun i j _ _ _ _ _ hc q=>by
 have h1:(0:Int)<j:=hc.1;have h2:j<1073741824:=hc.2;exact floordiv_int (by lia) (by rw [Int.fdiv_eq_ediv_of_nonneg i (by lia)];exact q) (.inl (PyProof.noPylong_small (by lia)))
theorem zcb:OpR X (binaryOp .Mod) (rI (fun _ j=>0<j) fun i j=>.int (i%j)):=opI fun i j _ _ _ _ _ hc q=>by
 have h1:(0:Int)<j:=hc;exact mod_int' (by lia) (by rw [Int.fmod_eq_emod_of_nonneg i (by lia)];exact q)
theorem z2j:OpR X (binaryOp .Pow) (rI z98 fun i j=>.int (i ^ j.toNat)):=opI fun _ _ _ _ _ _ _ hc q=>pow_int_small hc.1 hc.2.1 hc.2.2 q
theorem unI {f:Value->Sem Value}{g:Int->Int}
  (rule:∀ (i:Int) (t:Tok) (s:Shared) (Q:Value->Shared->Prop) (E:Value->Shared->Prop),Q (.int (g i) s.toks) { s with toks:=s.toks+1 }->wpAny (model X.prog X.w) X.A (f (.int i t)) Q E s) :
  UnR X f (rU fun i=>.int (g i)):=by
 intro pins s σ H x v Q I rx h;obtain ⟨i,rfl,q⟩:=h;obtain ⟨t,rfl⟩:=rx;exact rule i t s _ _ ⟨.int (g i),H,I.tok _,⟨_,rfl⟩,q⟩
theorem zao:UnR X (unaryOp .USub) (rU fun i=>.int (-i)):=unI fun _ _ _ _ _ q=>neg_int q
end
noncomputable def z9u:V->V->Bool
 |.non,.non=>true|.non,.int _=>true|.int _,.non=>true|.non,.bl _=>true|.bl _,.non=>true|.non,.str _=>true|.str _,.non=>true
 |.int _,.int _=>true|.bl _,.bl _=>true|.str _,.str _=>true|.byt _,.byt _=>true
 |.int _,.str _=>true|.str _,.int _=>true|.bl _,.str _=>true|.str _,.bl _=>true
 |_,_=>false
noncomputable def rEq:R2:=fun x y H Q=>z9u x y=true/\Q (.bl (decide (x=y))) H
noncomputable def rNe:R2:=fun x y H Q=>z9u x y=true/\Q (.bl (!decide (x=y))) H
theorem zq6 {i j:Int}:decide (V.int i=V.int j)=(i==j):=by
 rw [Bool.eq_iff_iff];simp
theorem zwt {i j:Bool}:decide (V.bl i=V.bl j)=(i==j):=by
 rw [Bool.eq_iff_iff];simp
theorem zyy {i j:Str}:decide (V.str i=V.str j)=(i==j):=by
 rw [Bool.eq_iff_iff];simp
theorem zw4 {i j:Array UInt8}:decide (V.byt i=V.byt j)=(i.toList==j.toList):=by
 rw [Bool.eq_iff_iff];cases i
 cases j
 simp
section
variable {X:Cx}{a b c:Expr}{ta tb tc:TE}{pos:Pos}
theorem wu {pins:List (Addr×Obj)}{σ:St}{H:Hp}{s:Shared}{Q:VK}{k k':Bool} (I:Inv X pins σ H s) (q:Q (.bl k) H) (e:k=k'):EP X pins σ Q (.bool k') s:=by
 subst e;exact ⟨.bl k,H,I,rfl,q⟩
theorem z8u:OpR X (compareOp .Eq) rEq:=by
 intro pins s σ H x y v u Q I rx ry h;obtain ⟨hs,q⟩:=h;cases x with
 |non =>
  cases rx
  cases y with
  |non=>cases ry;exact PySem.EqNone.eq_none_none (wu I q (by simp))
  |bl j=>cases ry;exact PySem.EqNone.eq_none_bool (wu I q (by simp))
  |int j=>obtain ⟨t',rfl⟩:=ry;exact PySem.EqNone.eq_none_int (wu I q (by simp))
  |str j=>obtain ⟨t',rfl⟩:=ry;exact PySem.EqNone.eq_none_str (wu I q (by simp))
  |_=>exact absurd (show false=true from hs) Bool.false_ne_true
 |bl i =>
  cases rx
  cases y with
  |non=>cases ry;exact PySem.EqNone.eq_bool_none (wu I q (by simp))
  |bl j=>cases ry;exact eq_bool (wu I q zwt)
  |str j=>obtain ⟨t',rfl⟩:=ry;exact PySem.EqMixed.eq_bool_str (wu I q (by simp))
  |_=>exact absurd (show false=true from hs) Bool.false_ne_true
 |int i =>
  obtain ⟨t,rfl⟩:=rx;cases y with
  |non=>cases ry;exact PySem.EqNone.eq_int_none (wu I q (by simp))
  |int j=>obtain ⟨t',rfl⟩:=ry;exact eq_int (wu I q zq6)
  |str j=>obtain ⟨t',rfl⟩:=ry;exact PySem.EqMixed.eq_int_str (wu I q (by simp))
  |_=>exact absurd (show false=true from hs) Bool.false_ne_true
 |str i =>
  obtain ⟨t,rfl⟩:=rx;cases y with
  |non=>cases ry;exact PySem.EqNone.eq_str_none (wu I q (by simp))
  |bl j=>cases ry;exact PySem.EqMixed.eq_str_bool (wu I q (by simp))
  |int j=>obtain ⟨t',rfl⟩:=ry;exact PySem.EqMixed.eq_str_int (wu I q (by simp))
  |str j=>obtain ⟨t',rfl⟩:=ry;exact eq_str (wu I q zyy)
  |_=>exact absurd (show false=true from hs) Bool.false_ne_true
 |byt i =>
  obtain ⟨t,rfl⟩:=rx;cases y with
  |byt j=>obtain ⟨t',rfl⟩:=ry;exact PySem.W.eq_bytes (wu I q zw4)
  |_=>exact absurd (show false=true from hs) Bool.false_ne_true
 |_=>cases y<;>exact absurd (show false=true from hs) Bool.false_ne_true
theorem z7x:OpR X (compareOp .NotEq) rNe:=by
 intro pins s σ H x y v u Q I rx ry h;obtain ⟨hs,q⟩:=h;cases x with
 |non =>
  cases rx
  cases y with
  |non=>cases ry;exact PySem.EqNone.ne_none_none (wu I q (by simp))
  |bl j=>cases ry;exact PySem.EqNone.ne_none_bool (wu I q (by simp))
  |int j=>obtain ⟨t',rfl⟩:=ry;exact PySem.EqNone.ne_none_int (wu I q (by simp))
  |str j=>obtain ⟨t',rfl⟩:=ry;exact PySem.EqNone.ne_none_str (wu I q (by simp))
  |_=>exact absurd (show false=true from hs) Bool.false_ne_true
 |bl i =>
  cases rx
  cases y with
  |non=>cases ry;exact PySem.EqNone.ne_bool_none (wu I q (by simp))
  |bl j=>cases ry;exact ne_bool (wu I q (congrArg not zwt))
  |str j=>obtain ⟨t',rfl⟩:=ry;exact PySem.EqMixed.ne_bool_str (wu I q (by simp))
  |_=>exact absurd (show false=true from hs) Bool.false_ne_true
 |int i =>
  obtain ⟨t,rfl⟩:=rx;cases y with
  |non=>cases ry;exact PySem.EqNone.ne_int_none (wu I q (by simp))
  |int j=>obtain ⟨t',rfl⟩:=ry;exact ne_int (wu I q (congrArg not zq6))
  |str j=>obtain ⟨t',rfl⟩:=ry;exact PySem.EqMixed.ne_int_str (wu I q (by simp))
  |_=>exact absurd (show false=true from hs) Bool.false_ne_true
 |str i =>
  obtain ⟨t,rfl⟩:=rx;cases y with
  |non=>cases ry;exact PySem.EqNone.ne_str_none (wu I q (by simp))
  |bl j=>cases ry;exact PySem.EqMixed.ne_str_bool (wu I q (by simp))
  |int j=>obtain ⟨t',rfl⟩:=ry;exact PySem.EqMixed.ne_str_int (wu I q (by simp))
  |str j=>obtain ⟨t',rfl⟩:=ry;exact ne_str (wu I q (congrArg not zyy))
  |_=>exact absurd (show false=true from hs) Bool.false_ne_true
 |byt i =>
  obtain ⟨t,rfl⟩:=rx;cases y with
  |byt j=>obtain ⟨t',rfl⟩:=ry;exact PySem.W.ne_bytes (wu I q (congrArg not zw4))
  |_=>exact absurd (show false=true from hs) Bool.false_ne_true
 |_=>cases y<;>exact absurd (show false=true from hs) Bool.false_ne_true
theorem zgu:OpR X (compareOp .Lt) (rI0 fun i j=>.bl (decide (i<j))):=z68 fun _ _ _ _ _ _ _ q=>lt_int q
theorem zmh:OpR X (compareOp .LtE) (rI0 fun i j=>.bl (decide (i<=j))):=z68 fun _ _ _ _ _ _ _ q=>le_int q
theorem zrc:OpR X (compareOp .Gt) (rI0 fun i j=>.bl (decide (j<i))):=z68 fun _ _ _ _ _ _ _ q=>gt_int q
theorem z3z:OpR X (compareOp .GtE) (rI0 fun i j=>.bl (decide (j<=i))):=z68 fun _ _ _ _ _ _ _ q=>ge_int q
theorem OpR.or {f:Value->Value->Sem Value}{r r':R2} (h:OpR X f r) (h':OpR X f r'):OpR X f (fun x y H Q=>r x y H Q\/r' x y H Q):=by
 intro pins s σ H x y v u Q I rx ry q;rcases q with q|q
 ·exact h pins s σ H x y v u Q I rx ry q
 ·exact h' pins s σ H x y v u Q I rx ry q
theorem z1n (b:Expr) {op:CmpOp} (h:op≠.In:=by decide) (h2:op≠.NotIn:=by decide):behindInMarks op b=false:=by
 have e1:(op==CmpOp.In)=false:=by cases op<;>first|rfl|exact absurd rfl h
 have e2:(op==CmpOp.NotIn)=false:=by cases op<;>first|rfl|exact absurd rfl h2
 cases b<;>simp [behindInMarks,e1,e2]
theorem z3i {op:CmpOp}{r:R2} (ho:OpR X (compareOp op) r) (ha:PE X a ta) (hb:PE X b tb) (hm:behindInMarks op b=false):PE X (.Compare a [op] [b] pos) (tOp r ta tb):=by
 intro pins s σ H Q I h;exact wpAny_Compare1 (z7i ha hb I h fun v u s2 x y H2 I2 rx ry q=>ho pins s2 σ H2 x y v u Q I2 rx ry q) hm
noncomputable def zve (t:TE):TT:=fun σ H Q=>t σ H fun x H'=>∃ k,x=.bl k/\Q k H'
theorem zm9 {op:CmpOp}{r:R2} (ho:OpR X (compareOp op) r) (ha:PE X a ta) (hb:PE X b tb) (hm:behindInMarks op b=false):PT X (.Compare a [op] [b] pos) (zve (tOp r ta tb)):=by
 intro pins s σ H Q I h;refine wpAny_isTrue_Compare1 (thn (ha pins s σ H _ I h) fun v s1 ⟨x,H1,I1,r1,q1⟩=>thn (hb pins s1 σ H1 _ I1 q1) fun u s2 ⟨y,H2,I2,r2,q2⟩ =>
  thn (ho pins s2 σ H2 x y v u _ I2 r1 r2 q2) fun c s3 ⟨z,H3,I3,r3,k,e,q3⟩=>?_) hm
 subst e;cases r3
 exact wpAny_truthy_bool ⟨H3,I3,q3⟩
noncomputable def zyj (r r':R2) (ta tb tc:TE):TE:=fun σ H Q=>ta σ H fun x H1=>tb σ H1 fun y H2=>r x y H2 fun z H3=>∃ k,z=.bl k /\
 (if k=true then tc σ H3 fun w' H4=>r' y w' H4 Q else Q (.bl false) H3)
theorem zri {op op':CmpOp}{r r':R2} (ho:OpR X (compareOp op) r) (ho':OpR X (compareOp op') r') (ha:PE X a ta) (hb:PE X b tb) (hc:PE X c tc)
  (hm:lastMarks [op,op'] [b,c]=false:=by with_unfolding_all rfl):PE X (.Compare a [op,op'] [b,c] pos) (zyj r r' ta tb tc):=by
 intro pins s σ H Q I h;refine Compare_chain (thn (ha pins s σ H _ I h) fun v s1 ⟨x,H1,I1,r1,q1⟩=>chain_link (thn (hb pins s1 σ H1 _ I1 q1) fun u s2 ⟨y,H2,I2,r2,q2⟩ =>
  thn (ho pins s2 σ H2 x y v u _ I2 r1 r2 q2) fun d s3 ⟨z,H3,I3,r3,k,e,q3⟩=>?_)) hm
 subst e;cases r3
 refine wpAny_truthy_bool ?_;cases k with
 |false=>exact ite_ff ⟨.bl false,H3,I3,rfl,q3⟩
 |true=>exact ite_tt (chain_last (thn (hc pins s3 σ H3 _ I3 q3) fun w' s4 ⟨z',H4,I4,r4,q4⟩=>ho' pins s4 σ H4 y z' u w' Q I4 r2 r4 q4))
theorem zkg {op op':CmpOp}{r r':R2} (ho:OpR X (compareOp op) r) (ho':OpR X (compareOp op') r') (ha:PE X a ta) (hb:PE X b tb) (hc:PE X c tc)
  (hm:lastMarks [op,op'] [b,c]=false:=by with_unfolding_all rfl):PT X (.Compare a [op,op'] [b,c] pos) (zve (zyj r r' ta tb tc)):=by
 intro pins s σ H Q I h;refine isTrue_chain (thn (ha pins s σ H _ I h) fun v s1 ⟨x,H1,I1,r1,q1⟩=>test_link (thn (hb pins s1 σ H1 _ I1 q1) fun u s2 ⟨y,H2,I2,r2,q2⟩ =>
  thn (ho pins s2 σ H2 x y v u _ I2 r1 r2 q2) fun d s3 ⟨z,H3,I3,r3,k,e,q3⟩=>?_)) hm
 subst e;cases r3
 refine wpAny_truthy_bool ?_;cases k with
 |false =>
  obtain ⟨k',e',q'⟩:=q3;cases e'
  exact ite_ff ⟨H3,I3,q'⟩
 |true =>
  refine ite_tt (test_last (thn (hc pins s3 σ H3 _ I3 q3) fun w' s4 ⟨z',H4,I4,r4,q4⟩=>thn (ho' pins s4 σ H4 y z' u w' _ I4 r2 r4 q4) fun d' s5 ⟨z2,H5,I5,r5,k2,e2,q5⟩=>?_));subst e2;cases r5
  exact wpAny_truthy_bool ⟨H5,I5,q5⟩
theorem zus:(sizeLine:Nat)<2 ^ 63:=by rw [sizeLine_eq];decide
theorem vals1 {x:V}{us:List Value} (r:Vals [x] us):∃ u,us=[u]/\RelV x u:=by
 cases r with
 |cons r1 r2=>cases r2;exact ⟨_,rfl,r1⟩
theorem vals2 {x y:V}{us:List Value} (r:Vals [x,y] us):∃ u w',us=[u,w']/\RelV x u/\RelV y w':=by
 cases r with
 |cons r1 r2 =>
  cases r2 with
  |cons r3 r4=>cases r4;exact ⟨_,_,rfl,r1,r3⟩
theorem zyo (hc:X.calm=true):zca X (.builtin "max") (fun xs H Q=>∃ i j,xs=[.int i,.int j]/\Q (.int (if j > i then j else i)) H):=by
 intro pins s σ H xs us Q I r h;obtain ⟨i,j,rfl,q⟩:=h;obtain ⟨u,w',rfl,⟨t,rfl⟩,⟨t',rfl⟩⟩:=vals2 r;refine max_two_ints (I.ok.hd hc) fun h' tk k=>⟨_,H,I.kept k,?_,q⟩
 by_cases hj:j > i
 ·rw [if_pos hj,if_pos hj];exact ⟨_,rfl⟩
 ·rw [if_neg hj,if_neg hj];exact ⟨_,rfl⟩
end
structure z2x (h:Heap) (x dx C:Addr) (mA:Str->Option Value):Prop where
 obj:h.get? x=some (PySem.W.instObj C dx)
 ns:h.Ns1 dx mA
 ne:dx≠x
theorem zyv {h:Heap}{dx:Addr}{mA:Str->Option Value} (n:h.Ns1 dx mA):∃ od,h.get? dx=some od/\∀ name,PySem.W.lookIn name od=some (mA name):=by
 obtain ⟨o,es,ep,ho,hd,hk,_,hm⟩:=n;refine ⟨o,ho,fun name=>?_⟩;have e:=hm name;unfold nsFind findBy at e;rw [<- Array.find?_toList] at e;unfold PySem.W.lookIn;rw [hd];dsimp only;split
 ·rename_i y q
  rw [q] at e;exact congrArg some e
 ·rename_i q
  rw [q] at e;have a:es.toList.any (·.refKey)=false:=by
   rw [List.any_eq_false];intro y hy;obtain ⟨z,t,hkey⟩:=hk y (Array.mem_toList_iff.mp hy);simp [DictEntry.refKey,hkey]
  have a':¬ es.toList.any (·.refKey)=true:=by rw [a];exact Bool.false_ne_true
  rw [if_neg a'];exact congrArg some e
theorem z2x.look {h:Heap}{x dx C:Addr}{mA:Str->Option Value} (I:z2x h x dx C mA):∃ od,PySem.W.InstAt h x (PySem.W.instObj C dx) C (some od)/\∀ name,PySem.W.lookIn name od=some (mA name) :=
 let ⟨od,ho,hl⟩:=zyv I.ns
 ⟨od,⟨I.obj,rfl,rfl,ho⟩,hl⟩
section
variable {prog:Program}{w:World}{A:Around}{E:Value->Shared->Prop}{s:Shared}{K:PySem.W.Frag}{x dx C f:Addr}{mA:Str->Option Value}{name:Str}{v:Value}
theorem get_map {expr:Bool}{Q:Value->Shared->Prop} (X:K.In s.heap) (I:z2x s.heap x dx C mA) (hg:PySem.W.plainGet K C name=true) (hh:PySem.W.hasDictIn K C=true)
  (ha:PySem.W.findIn K (.ref C) name=some none) (hv:mA name=some v) (hv':PySem.W.handedIn v=true) (h:Q v { s with toks:=s.toks+1 }) :
  wpAny (model prog w) A (getAttr (.ref x) name expr) Q E s:=by
 obtain ⟨od,J,hl⟩:=I.look;exact PySem.W.get_value X J (PySem.W.plainGet_of hg).1 (PySem.W.findObj_own hh ha rfl (by rw [hl,hv])) hv' h
theorem z06 {pl:Sem Bool}{Q:Value×List Value->Shared->Prop} (X:K.In s.heap) (I:z2x s.heap x dx C mA) (hg:PySem.W.plainGet K C name=true)
  (hf:PySem.W.findIn K (.ref C) name=some (some (.ref f))) (ht:PySem.W.isFn K (.ref f)=true) (hv:mA name=none) (h:Q (.ref f,[.ref x]) s) :
  wpAny (model prog w) A (getMethod (.ref x) name pl) Q E s:=by
 obtain ⟨od,J,hl⟩:=I.look;exact PySem.W.method_fn X J (PySem.W.plainGet_of hg).1 (PySem.W.plainGet_of hg).2 hf (beq_iff_eq.mp ht) (by show (PySem.W.lookIn name od).map (·.isSome)=some false;rw [hl,hv];rfl) h
theorem z35 {ns:List Str}{Q:Unit->Shared->Prop} (X:K.In s.heap) (I:z2x s.heap x dx C mA)
  (hs:PySem.W.findIn K (.ref C) "__setattr__"=some (some (.builtin "object.__setattr__"))) (hp:PySem.W.plainOver K C=true) (ht:PySem.W.takerIn K C name=some none) (hh:PySem.W.hasDictIn K C=true)
  (hw:PySem.Within mA ns) (hsz:ns.length<=sizeLine)
  (h:∀ h',z2x h' x dx C (fun y=>if y=name then some v else mA y)->Heap.SameBut dx s.heap h'->Q () { s with heap:=h',toks:=s.toks+2 }) :
  wpAny (model prog w) A (setAttr (.ref x) name v) Q E s:=by
 obtain ⟨od,J,hl⟩:=I.look;refine PySem.W.set_plain X J hs (PySem.W.osa_open (s:={ s with toks:=s.toks+1 }) (r:=none) X J hp ht fun b=>?_);obtain ⟨cd,hc,hd'⟩:=PySem.W.any_some hh;have hx:s.heap.get? x=some ⟨.ref C,some dx,.plain,#[]⟩:=I.obj;refine wpAny_bind (wpAny_pure (wpAny_bind (wpAny_bind (wpAny_loadPart hx (wpAny_bind (PySem.W.Looks.here (s:={ s with toks:=s.toks+1 }) (PySem.W.looks_clsIn X hc) ?_))))));rw [hd'];refine wpAny_pure (a:=some dx) (wpAny_bind (wpAny_pure (wpAny_bind ?_)));refine wpAny_nsSet1 (s:={ s with toks:=s.toks+1 }) I.ns fun h' hn2 hs2=>?_;obtain ⟨oD,esD,epD,hoD,hdD,hcD⟩:=hn2.count (PySem.Within.cons name v hw);refine wpAny_bind (wpAny_lookBehind hoD (by rw [hdD];exact pastItsLine_dict (Nat.le_trans hcD (by rw [List.length_cons];lia))) ?_);exact wpAny_pure (h _ ⟨(hs2.2 _ (Ne.symm I.ne)).trans I.obj,hn2,I.ne⟩ hs2)
theorem z1i {R:Result->Shared->Prop}{vs:List Value}{kw:List (Str×Value)} (X:K.In s.heap) (hm:PySem.W.makesIn K C=true)
  (hi:PySem.W.findIn K (.ref C) "__init__"=some (some (.ref f))) (hf:PySem.W.typeIn K (.ref f)=some (.type "function"))
  (h:codeAny (model prog w) (A.under (.builtin "type.__call__" ⟨.ref C::vs,kw⟩)) (.call (.ref f) ⟨.ref (s.heap.objs.size+1)::vs,kw⟩) (PySem.W.InitBack (s.heap.objs.size+1) R)
   { s with heap:=(s.heap.push PySem.W.emptyDict).push (PySem.W.instObj C s.heap.objs.size) }) :
  codeAny (model prog w) A (.call (.ref C) ⟨vs,kw⟩) R s:=by
 obtain ⟨hh,g,d,t,os⟩:=s;exact PySem.W.make_core (PySem.W.makes_of X hm) (PySem.W.looks_findIn X hi) (fun self=>PySem.W.bind_fn X self hf) (.inl rfl) h
end
noncomputable def zbh (f:Str) (v:V):List (Str×V)->List (Str×V)
 |[]=>[(f,v)]
 |(g,x)::r=>if g=f then (g,v)::r else (g,x)::zbh f v r
theorem jd (f g:Str) (v:V):∀ fs:List (Str×V),(zbh f v fs).lookup g=if g=f then some v else fs.lookup g
 |[]=>by
  show List.lookup g [(f,v)]=_
  by_cases h:g=f
  ·have hb:(g==f)=true:=beq_iff_eq.mpr h;simp only [List.lookup,hb,if_pos h]
  ·have hb:(g==f)=false:=beq_eq_false_iff_ne.mpr h;simp only [List.lookup,hb,if_neg h]
 |(k,x)::r=>by
  have ih:=jd f g v r;rw [show zbh f v ((k,x)::r)=(if k=f then (k,v)::r else (k,x)::zbh f v r) from rfl];by_cases hk:k=f
  ·rw [if_pos hk];by_cases h:g=k
   ·have hb:(g==k)=true:=beq_iff_eq.mpr h;simp only [List.lookup,hb,if_pos (h.trans hk)]
   ·have hb:(g==k)=false:=beq_eq_false_iff_ne.mpr h;simp only [List.lookup,hb,if_neg (fun e:g=f=>h (e.trans hk.symm))]
  ·rw [if_neg hk];by_cases h:g=k
   ·have hb:(g==k)=true:=beq_iff_eq.mpr h;simp only [List.lookup,hb,if_neg (fun e:g=f=>hk (h.symm.trans e))]
   ·have hb:(g==k)=false:=beq_eq_false_iff_ne.mpr h;simp only [List.lookup,hb];exact ih
theorem zmw (f:Str) (v:V):∀ fs:List (Str×V),f∈(zbh f v fs).map (·.1)/\∀ g,g∈fs.map (·.1)->g∈(zbh f v fs).map (·.1)
 |[]=>⟨by simp [zbh],fun g h=>by simp at h⟩
 |(k,x)::r=>by
  obtain ⟨i1,i2⟩:=zmw f v r;rw [show zbh f v ((k,x)::r)=(if k=f then (k,v)::r else (k,x)::zbh f v r) from rfl];by_cases hk:k=f
  ·rw [if_pos hk];subst hk;exact ⟨by simp,fun g h=>by simpa using h⟩
  ·rw [if_neg hk];refine ⟨?_,fun g h=>?_⟩
   ·rw [List.map_cons];exact List.mem_cons_of_mem _ i1
   ·rw [List.map_cons] at h ⊢;rcases List.mem_cons.mp h with e|e
    ·exact List.mem_cons.mpr (.inl e)
    ·exact List.mem_cons_of_mem _ (i2 g e)
theorem zm1 (f:Str) (v:V):∀ fs:List (Str×V),(zbh f v fs).length<=fs.length+1
 |[]=>by simp [zbh]
 |(k,x)::r=>by
  have ih:=zm1 f v r;rw [show zbh f v ((k,x)::r)=(if k=f then (k,v)::r else (k,x)::zbh f v r) from rfl];by_cases hk:k=f
  ·rw [if_pos hk,List.length_cons,List.length_cons];lia
  ·rw [if_neg hk,List.length_cons,List.length_cons];lia
theorem zs5.some_of {v:V}{o:Option Value} (r:zs5 (some v) o):∃ u,o=some u/\RelV v u:=by
 cases o with
 |none=>exact (show False from r).elim
 |some u=>exact ⟨u,rfl,r⟩
theorem zs5.none_of {o:Option Value} (r:zs5 none o):o=none:=by
 cases o with
 |none=>rfl
 |some u=>exact (show False from r).elim
theorem zzp {v:V}{u:Value} (r:RelV v u):PySem.W.handedIn u=true:=by
 cases v with
 |non=>cases (show u=Value.none from r);rfl
 |bl b=>cases (show u=Value.bool b from r);rfl
 |int i=>obtain ⟨t,e⟩:=(show ∃ t,u=Value.int i t from r);cases e;rfl
 |str x=>obtain ⟨t,e⟩:=(show ∃ t,u=Value.str x t from r);cases e;rfl
 |byt b=>obtain ⟨t,e⟩:=(show ∃ t,u=Value.bytes b t from r);cases e;rfl
 |flt b=>obtain ⟨t,e⟩:=(show ∃ t,u=Value.float b t from r);cases e;rfl
 |ref a=>cases (show u=Value.ref a from r);rfl
 |ty n=>cases (show u=Value.type n from r);rfl
section
variable {P:Program}{w:World}{H H':Hp}{h h':Heap}{a C dx:Addr}{fs fs':List (Str×V)}
theorem zqv (hok:HOk P w H h) (e:H a=some (.ins C dx fs)):∃ mA,z2x h a dx C mA/\(∀ f,zs5 (fs.lookup f) (mA f))/\PySem.Within mA (fs.map (·.1))/\fs.length<=1000/\H dx=some (.own a):=by
 obtain ⟨d,z,ne,ob,mA,n,r,q⟩:=(show wk P w H h a (.ins C dx fs) from hok a _ e)
 exact ⟨mA,⟨ob,n,ne⟩,r,q,z,d⟩
end
structure Cls (K:PySem.W.Frag) (C:Addr):Prop where
 pg:PySem.W.plainGet K C Str.empty=true
 hd:PySem.W.hasDictIn K C=true
 po:PySem.W.plainOver K C=true
 sa:PySem.W.findIn K (.ref C) "__setattr__"=some (some (.builtin "object.__setattr__"))
theorem Cls.get {K:PySem.W.Frag}{C:Addr} (c:Cls K C) (f:Str):PySem.W.plainGet K C f=true:=c.pg
noncomputable def jb (K:PySem.W.Frag) (C:Addr) (f:Str):Prop:=PySem.W.findIn K (.ref C) f=some none
theorem jb.taker {K:PySem.W.Frag}{C:Addr}{f:Str} (n:jb K C f):PySem.W.takerIn K C f=some none:=by
 unfold PySem.W.takerIn;rw [show PySem.W.findIn K (.ref C) f=some none from n];rfl
structure Meth (K:PySem.W.Frag) (C:Addr) (m:Str) (f:Addr):Prop where
 at_:PySem.W.findIn K (.ref C) m=some (some (.ref f))
 fn:PySem.W.isFn K (.ref f)=true
 kp:PySem.W.keepIn K (.ref f)=true
section
variable {X:Cx}{pins:List (Addr×Obj)}{σ:St}{H:Hp}{s:Shared}{a C dx:Addr}{fs:List (Str×V)}{f:Str}{v:V}{A:Around}{E:Value->Shared->Prop}
theorem zwi {b:Bool}{Q:Value->Shared->Prop} (I:Inv X pins σ H s) (e:H a=some (.ins C dx fs)) (c:Cls X.K C) (n:jb X.K C f) (l:fs.lookup f=some v)
  (h:∀ u s',Inv X pins σ H s'->RelV v u->Q u s'):wpAny (model X.prog X.w) A (getAttr (.ref a) f b) Q E s:=by
 obtain ⟨mA,O,r,_,_,_⟩:=zqv I.hok e;obtain ⟨u,hu,ru⟩:=zs5.some_of (v:=v) (o:=mA f) (by rw [<- l];exact r f);exact get_map I.kIn O (c.get f) c.hd n hu (zzp ru) (h u _ (I.tok _) ru)
theorem zwa {m:Str}{g:Addr}{pl:Sem Bool}{Q:Value×List Value->Shared->Prop} (I:Inv X pins σ H s) (e:H a=some (.ins C dx fs)) (c:Cls X.K C) (k:Meth X.K C m g) (l:fs.lookup m=none)
  (h:Q (.ref g,[.ref a]) s):wpAny (model X.prog X.w) A (getMethod (.ref a) m pl) Q E s:=by
 obtain ⟨mA,O,r,_,_,_⟩:=zqv I.hok e;have hn:mA m=none:=zs5.none_of (by rw [<- l];exact r m);exact z06 I.kIn O (c.get m) k.at_ k.fn hn h
theorem zwd {y:V}{u:Value}{Q:Unit->Shared->Prop} (I:Inv X pins σ H s) (e:H a=some (.ins C dx fs)) (c:Cls X.K C) (n:jb X.K C f) (hl:fs.length<1000) (ry:RelV y u)
  (h:∀ s',Inv X pins σ (upd H a (.ins C dx (zbh f y fs))) s'->Q () s'):wpAny (model X.prog X.w) A (setAttr (.ref a) f u) Q E s:=by
 obtain ⟨mA,O,r,wi,_,ho⟩:=zqv I.hok e;have hz:(fs.map (·.1)).length<=sizeLine:=by rw [List.length_map,sizeLine_eq];lia
 refine z35 I.kIn O c.sa c.po n.taker c.hd wi hz fun h' O' sb=>h _ ?_;have hd:∃ o,h'.get? dx=some o:=let ⟨o,_,_,e',_⟩:=O'.ns;⟨o,e'⟩;refine I.write (x:=a) (e:=dx) (by rw [e];exact True.intro) (.inr ho) (fun b q hb z=>(sb.2 b hb).trans z) hd ?_;refine ⟨by rw [qz O.ne];exact ho,?_,O.ne,O'.obj,_,O'.ns,fun g=>?_,fun g hg=>?_⟩
 ·have:=zm1 f y fs;lia
 ·show zs5 ((zbh f y fs).lookup g) (if g=f then some u else mA g)
  rw [jd];by_cases q:g=f
  ·rw [if_pos q,if_pos q];exact ry
  ·rw [if_neg q,if_neg q];exact r g
 ·by_cases q:g=f
  ·rw [q];exact (zmw f y fs).1
  ·refine (zmw f y fs).2 g (wi g fun z=>hg ?_);show (if g=f then some u else mA g)=none
   rw [if_neg q];exact z
theorem Inv.made (I:Inv X pins σ H s):Inv X pins σ (upd (upd H s.heap.objs.size (.own (s.heap.objs.size+1))) (s.heap.objs.size+1) (.ins C s.heap.objs.size []))
  { s with heap:=(s.heap.push PySem.W.emptyDict).push (PySem.W.instObj C s.heap.objs.size) }:=by
 have e1:(s.heap.push PySem.W.emptyDict).get? s.heap.objs.size=some PySem.W.emptyDict:=Heap.get?_push_size s.heap rfl;have e2:((s.heap.push PySem.W.emptyDict).push (PySem.W.instObj C s.heap.objs.size)).get? (s.heap.objs.size+1)=some (PySem.W.instObj C s.heap.objs.size):=by
  have:=Heap.get?_push_size (s.heap.push PySem.W.emptyDict) (o:=PySem.W.instObj C s.heap.objs.size) rfl;rwa [Heap.size_push] at this
 have e3:(s.heap.push PySem.W.emptyDict).Ns s.heap.objs.size (fun _=>none):=⟨PySem.W.emptyDict,#[],_,e1,rfl,(fun e he=>absurd he (by simp)),fun _=>rfl⟩
 have I1:=I.laid (a:=s.heap.objs.size) (o:=.own (s.heap.objs.size+1)) (h':=s.heap.push PySem.W.emptyDict) (t':=s.toks) (fun b u q=>Heap.get?_push_of_some _ q) (Nat.le_refl _) ⟨_,e1⟩;refine I1.laid (a:=s.heap.objs.size+1) (o:=.ins C s.heap.objs.size []) (t':=s.toks) (fun b u q=>Heap.get?_push_of_some _ q) (Nat.le_of_eq (Heap.size_push _ _)) ?_;have ne:s.heap.objs.size≠s.heap.objs.size+1:=Nat.ne_of_lt (Nat.lt_succ_self _);refine ⟨by rw [qz ne,zb],Nat.zero_le _,ne,e2,fun _=>none,(Heap.Ns1.of_empty e3).at fun o q=>Heap.get?_push_of_some _ q,fun _=>True.intro,fun y hy=>absurd rfl hy⟩
theorem z3g {prog:Program}{w:World}{env:Env}{e:Expr}{f:Str}{pos:Pos}{s:Shared}{Q:Value->Shared->Prop} (hb:attributeBase e f env (eval e env)=eval e env)
  (h:wpAny (model prog w) A (eval e env) (fun o s₁=>wpAny (model prog w) A (getAttr o f true) Q E s₁) E s):wpAny (model prog w) A (eval (.Attribute e f pos) env) Q E s :=
 Attribute_any_ h (by rw [arm_eval_Attribute,hb])
end
noncomputable def z9q (K:PySem.W.Frag) (ta:TE) (f:Str):TE:=fun σ H Q=>ta σ H fun x H1=>∃ a C dx fs v,x=.ref a/\H1 a=some (.ins C dx fs)/\Cls K C/\jb K C f/\fs.lookup f=some v/\Q v H1
noncomputable def z9y (K:PySem.W.Frag) (ta tv:TE) (f:Str):TS:=fun D σ H=>tv σ H fun y H1=>ta σ H1 fun x H2=>∃ a C dx fs,x=.ref a/\H2 a=some (.ins C dx fs)/\Cls K C/\jb K C f/\fs.length<1000 /\
 D.nx σ (upd H2 a (.ins C dx (zbh f y fs)))
section
variable {X:Cx}{o e value:Expr}{f:Str}{pos pos' tpos:Pos}{ta tv:TE}
theorem qg (he:PE X e ta) (hb:attributeBase e f X.env (eval e X.env)=eval e X.env):PE X (.Attribute e f pos) (z9q X.K ta f):=by
 intro pins s σ H Q I h;refine z3g hb (thn (he pins s σ H _ I h) fun u s1 ⟨x,H1,I1,rx,a,C,dx,fs,v,ex,ea,c,n,l,q⟩=>?_);subst ex;obtain rfl:u=Value.ref a:=rx;exact zwi I1 ea c n l fun u' s2 I2 ru=>⟨v,H1,I2,ru,q⟩
theorem ze7 (ha:PE X o ta) (hv:PE X value tv) (hs:swapsWith value (some (.Attribute o f pos')) pos.line X.env=pure false):PS X (.Assign [.Attribute o f pos'] value pos) (z9y X.K ta tv f):=by
 intro pins s σ H D I h;refine plainObj_wpAny_Assign_Attribute (thn (hv pins s σ H _ I h) fun u s1 ⟨y,H1,I1,ry,q⟩=>thn (ha pins s1 σ H1 _ I1 q) fun ov s2 ⟨x,H2,I2,rx,a,C,dx,fs,ex,ea,c,n,l,q2⟩=>?_) hs;subst ex;obtain rfl:ov=Value.ref a:=rx;exact zwd I2 ea c n l ry fun s3 I3=>⟨σ,_,I3,q2⟩
end
section
variable {X:Cx}{pins:List (Addr×Obj)}{σ:St}{H:Hp}{s:Shared}{A:Around}{E:Value->Shared->Prop}{Q:Value->Shared->Prop}{c:Value}{b:Bool}
inductive zut (K:PySem.W.Frag) (H:Hp):V->Value->Prop where
 |non:zut K H .non (.type "NoneType")
 |bl (x:Bool):zut K H (.bl x) (.type "bool")
 |int (i:Int):zut K H (.int i) (.type "int")
 |str (x:Str):zut K H (.str x) (.type "str")
 |flt (x:UInt64):zut K H (.flt x) (.type "float")
 |lst {a:Addr} {xs:List V} (e:H a=some (.lst xs)):zut K H (.ref a) (.type "list")
 |frz {a:Addr} {o:Obj} {xs:List V} (e:H a=some (.frz o (.lst xs))):zut K H (.ref a) (.type "list")
 |tup {a:Addr} {xs:List V} (e:H a=some (.tup xs)):zut K H (.ref a) (.type "tuple")
 |dK {a:Addr} {kvs:List (Key×V)} (e:H a=some (.dK kvs)):zut K H (.ref a) (.type "dict")
 |dT {a:Addr} {kvs:List (List Key×V)} (e:H a=some (.dT kvs)):zut K H (.ref a) (.type "dict")
 |ins {a C dx:Addr} {fs:List (Str×V)} (e:H a=some (.ins C dx fs)) (cl:Cls K C) (ha:PySem.W.findIn K (.ref C) "__class__"=some (some (.builtin "object.__class__")))
   (hn:PySem.W.specialIn K (.builtin "object.__class__") "__get__"=some (some (.builtin "getset_descriptor.__get__"))) (htk:PySem.W.takesIn K (.builtin "object.__class__")=some true)
   (hm:PySem.W.mroIn K C (.type "object")=some true):zut K H (.ref a) (.ref C)
theorem zyh {x:V}{u t:Value} (I:Inv X pins σ H s) (rx:RelV x u) (ty:zut X.K H x t) (e:PySem.W.kitOne X.K t c=some b) (h:∀ tk,Q (.bool b) { s with toks:=tk }) :
  wpAny (model X.prog X.w) A (call (.builtin "isinstance") [u,c]) Q E s:=by
 cases ty with
 |non=>cases (show u=Value.none from rx);exact PySem.W.kia_one PySem.W.kitx_none I.kIn True.intro e (fun z=>nomatch z) h
 |bl y=>cases (show u=Value.bool y from rx);exact PySem.W.kia_one PySem.W.kitx_bool I.kIn True.intro e (fun z=>nomatch z) h
 |int i=>obtain ⟨t,q⟩:=(show ∃ t,u=Value.int i t from rx);cases q;exact PySem.W.kia_one PySem.W.kitx_int I.kIn True.intro e (fun z=>nomatch z) h
 |str y=>obtain ⟨t,q⟩:=(show ∃ t,u=Value.str y t from rx);cases q;exact PySem.W.kia_one PySem.W.kitx_str I.kIn True.intro e (fun z=>nomatch z) h
 |flt y=>obtain ⟨t,q⟩:=(show ∃ t,u=Value.float y t from rx);cases q;exact PySem.W.kia_one PySem.W.kitx_float I.kIn True.intro e (fun z=>nomatch z) h
 |@lst a xs ea =>
  cases (show u=Value.ref a from rx)
  obtain ⟨_,_,n,_,h1⟩:=(show wk X.prog X.w H s.heap a (.lst xs) from I.hok a _ ea)
  exact PySem.W.kia_one PySem.W.kitx_list I.kIn ⟨_,h1,rfl⟩ e (fun z=>nomatch z) h
 |@frz a ob xs ea =>
  cases (show u=Value.ref a from rx)
  obtain ⟨_,_,_,n,_,h1⟩:=(show wk X.prog X.w H s.heap a (.frz ob (.lst xs)) from I.hok a _ ea)
  exact PySem.W.kia_one PySem.W.kitx_list I.kIn ⟨_,h1,rfl⟩ e (fun z=>nomatch z) h
 |@tup a xs ea =>
  cases (show u=Value.ref a from rx)
  obtain ⟨_,_,_,p⟩:=(show wk X.prog X.w H s.heap a (.tup xs) from I.hok a _ ea)
  obtain ⟨o,h1,h2,_⟩:=p;exact PySem.W.kia_one PySem.W.kitx_tuple I.kIn ⟨o,h1,h2⟩ e (fun z=>nomatch z) h
 |@dK a kvs ea =>
  cases (show u=Value.ref a from rx)
  obtain ⟨_,_,vs,_,p⟩:=(show wk X.prog X.w H s.heap a (.dK kvs) from I.hok a _ ea)
  obtain ⟨o,es,ep,h1,h2,_⟩:=p;exact PySem.W.kia_one PySem.W.kitx_dict I.kIn ⟨o,h1,h2.1⟩ e (fun z=>nomatch z) h
 |@dT a kvs ea =>
  cases (show u=Value.ref a from rx)
  obtain ⟨_,_,xs,_,o,es,ep,h1,h2,_⟩:=(show wk X.prog X.w H s.heap a (.dT kvs) from I.hok a _ ea)
  exact PySem.W.kia_one PySem.W.kitx_dict I.kIn ⟨o,h1,h2.1⟩ e (fun z=>nomatch z) h
 |@ins a C dx fs ea cl ha hn htk hm =>
  cases (show u=Value.ref a from rx)
  obtain ⟨mA,O,_⟩:=zqv I.hok ea;obtain ⟨od,J,_⟩:=O.look;exact PySem.W.kia_one (PySem.W.kitx_own (cl.get _) cl.hd ha hn htk hm) I.kIn J e (fun z=>nomatch z) h
end
structure zl9 (k:Nat) (A:Around):Prop where
 hd:A.handled=none
 dp:A.depth+3*k+5<recursionLimit
 un:A.units+16*k+200<cLine
theorem zl9.mono {j k:Nat}{A:Around} (r:zl9 k A) (h:j<=k):zl9 j A:=⟨r.hd,by have:=r.dp;lia,by have:=r.un;lia⟩
theorem zl9.deeper {k:Nat}{A:Around} (r:zl9 (k+1) A) (env:Env):zl9 k (A.deeper env) :=
 ⟨r.hd,by have:=r.dp;show A.depth+1+3*k+5<_;lia,by have:=r.un;show A.units+3+16*k+200<_;lia⟩
theorem zvq {A:Around}{C:Addr}{us:List Value}{kw:List (Str×Value)}:(A.under (.builtin "type.__call__" ⟨.ref C::us,kw⟩)).depth=A.depth+1:=by
 first|rfl|simp [Around.under,Code.weight,Code.isCreation,Code.isGuard,Code.isCaller,Code.frames,Code.isFrame,guardIds]
theorem zvg {A:Around}{C:Addr}{us:List Value}{kw:List (Str×Value)}:(A.under (.builtin "type.__call__" ⟨.ref C::us,kw⟩)).units=A.units+1:=by
 first|rfl|simp [Around.under,Code.cUnits,Code.frames,Code.isFrame]
theorem zl9.make {k:Nat}{A:Around} (r:zl9 (k+1) A) (C:Addr) (us:List Value) (kw:List (Str×Value)):zl9 k (A.under (.builtin "type.__call__" ⟨.ref C::us,kw⟩)) :=
 ⟨r.hd,by have:=r.dp;rw [zvq];lia,by have:=r.un;rw [zvg];lia⟩
theorem zl9.depth {k:Nat}{A:Around} (r:zl9 k A):A.depth<recursionLimit:=by have:=r.dp;lia
theorem zl9.units {k:Nat}{A:Around} (r:zl9 k A):A.units+64<cLine:=by have:=r.un;lia
noncomputable def z08:TA:=fun _ H Q=>Q [] H
noncomputable def zn8 (ta:TE) (tr:TA):TA:=fun σ H Q=>ta σ H fun x H1=>tr σ H1 fun xs H2=>Q (x::xs) H2
section
variable {X:Cx}{e:Expr}{es:List Expr}{te:TE}{t:TA}{pos:Pos}
theorem qu:PA X [] z08:=fun _ _ _ _ H Q I h=>Calls.spliced_nil ⟨[],H,I,.nil,h⟩
theorem zm (ha:PE X e te) (hr:PA X es t) (hs:starEach (e::es) X.env=(false,eval e X.env)::starEach es X.env:=by rfl):PA X (e::es) (zn8 te t):=by
 intro pos pins s σ H Q I h;rw [hs];show wpAny _ _ (spliced ((false,eval e X.env)::backTo pos (starEach es X.env))) _ _ s
 refine Calls.spliced_cons (thn (ha pins s σ H _ I h) fun u s1 ⟨x,H1,I1,r1,q1⟩=>?_);exact thn (hr pos pins s1 σ H1 _ I1 q1) fun us s2 ⟨xs,H2,I2,r2,q2⟩=>⟨x::xs,H2,I2,.cons r1 r2,q2⟩
noncomputable def z9i (t:TA):TE:=fun σ H Q=>t σ H fun xs H1=>xs.length<=sizeLine/\∀ p,H1 p=none->Q (.ref p) (upd H1 p (.tup xs))
noncomputable def z9c (t:TA):TE:=fun σ H Q=>t σ H fun xs H1=>xs.length<=sizeLine/\∀ p,H1 p=none->Q (.ref p) (upd H1 p (.lst xs))
theorem yr {x1} (h:PA X es t):PE X (.Tuple es x1 pos) (z9i t):=by
 intro pins s σ H Q I hq;refine wpAny_Tuple_spliced (thn (h pos pins s σ H _ I hq) fun us s1 ⟨xs,H1,I1,r,z,q⟩=>⟨by rw [<- r.length];exact z,?_⟩);have hf:H1 s1.heap.objs.size=none:=I1.hok.fresh (Nat.le_refl _);refine ⟨.ref s1.heap.objs.size,upd H1 s1.heap.objs.size (.tup xs),I1.laid (t':=s1.toks) (fun b u e=>Heap.get?_push_of_some _ e) (Nat.le_refl _) ?_,rfl,q _ hf⟩;exact ⟨z,us,r,⟨_,Heap.get?_push_size _ rfl,rfl,_,rfl⟩⟩
theorem zr (h:PA X es t):PE X (.List es pos) (z9c t):=by
 intro pins s σ H Q I hq;refine wpAny_List_spliced (thn (h pos pins s σ H _ I hq) fun us s1 ⟨xs,H1,I1,r,z,q⟩=>⟨by rw [<- r.length];exact z,?_⟩);have hf:H1 s1.heap.objs.size=none:=I1.hok.fresh (Nat.le_refl _);refine ⟨.ref s1.heap.objs.size,upd H1 s1.heap.objs.size (.lst xs),I1.laid (t':=s1.toks) (fun b u e=>Heap.get?_push_of_some _ e) (Nat.le_refl _) ?_,rfl,q _ hf⟩;exact ⟨z,us,0,r,Heap.get?_push_size _ rfl⟩
end
noncomputable abbrev Sp:=List V->Hp->VK->XK->Prop
noncomputable abbrev CXT:=List Env->Hp->Shared->XK->Value->Shared->Prop
structure z37 (P:Program) (w:World) (K:PySem.W.Frag) (mg:Str->Option Value) (base:Heap) (A:Around) (outer:List Env) (s:Shared) (H:Hp):Prop where
 frames:A.frames=some outer
 mod:Mod K mg base
 bs:∀ b o,base.get? b=some o->s.heap.get? b=some o/\H b=none
 bsz:base.objs.size<=s.heap.objs.size
 funs:s.heap.FunFrames base outer
 frf:∀ b∈frs outer,H b=none
 hok:HOk P w H s.heap
 bare:AllBare s.gens
noncomputable def CE (outer:List Env) (P:Program) (w:World) (H:Hp) (s:Shared) (Q:VK) (u:Value) (s':Shared):Prop :=
 ∃ v H',s'.os=s.os/\AllBare s'.gens/\Un (frs outer) [] H H' s.heap s'.heap/\HOk P w H' s'.heap/\RelV v u/\Q v H'
noncomputable def CR (CX:CXT) (outer:List Env) (P:Program) (w:World) (H:Hp) (s:Shared) (Q:VK) (E:XK) (r:Result) (s':Shared):Prop :=
 match r with
 |.ok (.ret u)=>CE outer P w H s Q u s'
 |.ok _=>False
 |.error e=>CX outer H s E e s'
structure qm (P:Program) (w:World) (K:PySem.W.Frag) (mg:Str->Option Value) (base:Heap) (CX:CXT) (k:Nat) (f:Addr) (fd:FuncData) (ps:List Str) (sp:Sp):Prop where
 len:∀ vs H Q E,sp vs H Q E->vs.length=ps.length
 run:∀ (A:Around) (outer:List Env) (s:Shared) (H:Hp) (args:Args) (us:List Value) (vs:List V) (Q:VK) (E:XK),zl9 k A->z37 P w K mg base A outer s H->BindsTo s fd args (ps.zip us)->Vals vs us->sp vs H Q E ->
  codeAny (model P w) A (.call (.ref f) args) (CR CX outer P w H s Q E) s
theorem qm.mono {P:Program}{w:World}{K:PySem.W.Frag}{mg:Str->Option Value}{base:Heap}{CX:CXT}{j k:Nat}{f:Addr}{fd:FuncData}{ps:List Str}{sp:Sp} (F:qm P w K mg base CX j f fd ps sp) (h:j<=k) :
  qm P w K mg base CX k f fd ps sp:=⟨F.len,fun A outer s H args us vs Q E hr=>F.run A outer s H args us vs Q E (hr.mono h)⟩
theorem z37.make {P:Program}{w:World}{K:PySem.W.Frag}{mg:Str->Option Value}{base:Heap}{A:Around}{outer:List Env}{s:Shared}{H:Hp} (e:z37 P w K mg base A outer s H) (C:Addr) (us:List Value) (kw:List (Str×Value)) :
  z37 P w K mg base (A.under (.builtin "type.__call__" ⟨.ref C::us,kw⟩)) outer s H:=⟨by first|exact e.frames|(simpa [Around.under,Code.envs,Code.isFrame,pushEnvs] using e.frames),e.mod,e.bs,e.bsz,e.funs,e.frf,e.hok,e.bare⟩
section
variable {X:Cx}{pins:List (Addr×Obj)}{σ:St}{H:Hp}{s s':Shared}
theorem Inv.env0 (I:Inv X pins σ H s):z37 X.prog X.w X.K X.mg X.base X.A X.stack s H :=
 ⟨I.ok.frames,I.ok.mod,I.bs,Nat.le_trans I.ok.bsz I.sz,I.stack,I.stkFree,I.hok,I.bare⟩
theorem Inv.after {Q:VK}{u:Value} (I:Inv X pins σ H s) (h:CE X.stack X.prog X.w H s Q u s'):EP X pins σ Q u s':=by
 obtain ⟨v,H',os,bare,un,hok,r,q⟩:=h;obtain ⟨hh,g,d,t,os'⟩:=s';obtain rfl:os'=s.os:=os;exact ⟨v,H',I.call (h':=hh) (g':=g) (d':=d) (t':=t) (ch:=[]) un hok bare (fun b z=>absurd z (by simp)),r,q⟩
end
noncomputable def z02 (sp:Sp) (dvs:List V) (E:XK) (t:TA):TE:=fun σ H Q=>t σ H fun vs H1=>sp (vs++dvs) H1 Q E
noncomputable def z3t (C:Addr) (m:Str) (sp:Sp) (dvs:List V) (E:XK) (ta:TE) (t:TA):TE:=fun σ H Q=>ta σ H fun x H1=>∃ a dx fs,x=.ref a/\H1 a=some (.ins C dx fs)/\fs.lookup m=none /\
 t σ H1 fun vs H2=>sp (x::(vs++dvs)) H2 Q E
noncomputable def z3y (C:Addr) (sp:Sp) (dvs:List V) (E:XK) (t:TA):TE:=fun σ H Q=>t σ H fun vs H1=>∀ x dx,H1 x=none->H1 dx=none->dx≠x ->
 sp (.ref x::(vs++dvs)) (upd (upd H1 dx (.own x)) x (.ins C dx [])) (fun v H2=>v=.non/\Q (.ref x) H2) E
noncomputable def Binds (K:PySem.W.Frag) (fd:FuncData) (ps:List Str) (ds:List Value):Prop :=
 ∀ (s:Shared) (us:List Value),K.In s.heap->(us++ds).length=ps.length->BindsTo s fd ⟨us,[]⟩ (ps.zip (us++ds))
theorem Binds.all {K:PySem.W.Frag}{fd:FuncData}{ps:List Str} (h:∀ us:List Value,us.length=ps.length->bindArgs fd ⟨us,[]⟩=pure (ps.zip us)):Binds K fd ps []:=fun s us _ hl=>by
 rw [List.append_nil] at hl ⊢;exact .of_eq (h us hl)
noncomputable def znd (CX:CXT) (X:Cx) (E:XK):Prop:=∀ (pins:List (Addr×Obj)) (σ:St) (H:Hp) (s:Shared) (e:Value) (s':Shared),Inv X pins σ H s->CX X.stack H s E e s'->X.xe e s'
section
variable {X:Cx}{CX:CXT}{k:Nat}{f C:Addr}{fd:FuncData}{ps:List Str}{sp:Sp}{dvs:List V}{ds:List Value}{E:XK}{x m:Str}{p pos apos:Pos}{e o:Expr}{es:List Expr}{ta:TE}{t:TA}
theorem zyi {pins:List (Addr×Obj)}{σ:St}{H:Hp}{s:Shared}{Q:VK}{us:List Value}{vs:List V} (F:qm X.prog X.w X.K X.mg X.base CX k f fd ps sp) (hr:zl9 k X.A) (hb:Binds X.K fd ps ds) (hd:Vals dvs ds) (hx:znd CX X E)
  (I:Inv X pins σ H s) (r:Vals vs us) (h:sp (vs++dvs) H Q E):wpAny (model X.prog X.w) X.A (call (.ref f) us) (EP X pins σ Q) X.xe s:=by
 have r2:Vals (vs++dvs) (us++ds):=r.append hd;have hl:(us++ds).length=ps.length:=by rw [<- r2.length];exact F.len _ _ _ _ h
 refine wpAny_call (codeAny_mono (F.run X.A X.stack s H ⟨us,[]⟩ (us++ds) (vs++dvs) Q E hr I.env0 (hb s us I.kIn hl) r2 h) fun r s' hq=>?_);cases r with
 |error e=>exact hx pins σ H s e s' I hq
 |ok fl =>
  cases fl with
  |ret u=>exact I.after hq
  |next=>exact False.elim hq
  |brk=>exact False.elim hq
  |cont=>exact False.elim hq
theorem z27 (F:qm X.prog X.w X.K X.mg X.base CX k f fd ps sp) (hr:zl9 k X.A) (hg:Gl X x) (hm:X.mg x=some (.ref f)) (hk:PySem.W.keepIn X.K (.ref f)=true) (hb:Binds X.K fd ps ds) (hd:Vals dvs ds) (hx:znd CX X E)
  (ha:PA X (e::es) t) (hdb:(x==("__debug__":Str))=false:=by decide) (he:starEach (e::es) X.env=(false,eval e X.env)::starEach es X.env:=by rfl) (hpl:(backTo pos (starEach es X.env)).any (·.1)=false:=by rfl) :
  PE X (.Call (.Name x p) (e::es) [] pos) (z02 sp dvs E t):=by
 intro pins s σ H Q I h;refine wpAny_Call_Name_kw (zq3 I hg hm ?_ hdb);refine PySem.W.callWith_K (h₀:=X.base) I.ok.mod.kin hk (thn (ha pos pins s σ H _ I h) fun us s1 ⟨vs,H1,I1,r,q⟩=>⟨I1.kIn,?_⟩) he hpl;exact zyi F hr hb hd hx I1 r q
theorem zz8 (F:qm X.prog X.w X.K X.mg X.base CX k f fd ps sp) (hr:zl9 k X.A) (hg:Gl X x) (hm:X.mg x=some (.ref f)) (hk:PySem.W.keepIn X.K (.ref f)=true) (hb:Binds X.K fd ps ds) (hd:Vals dvs ds) (hx:znd CX X E)
  (hdb:(x==("__debug__":Str))=false:=by decide):PE X (.Call (.Name x p) [] [] pos) (z02 sp dvs E z08):=by
 intro pins s σ H Q I h;refine wpAny_Call_Name_kw (zq3 I hg hm ?_ hdb);exact PySem.W.callWith_K0 I.kIn hk (zyi (us:=[]) F hr hb hd hx I .nil h)
theorem yq {pl:Sem Bool} (he:PE X o ta) (c:Cls X.K C) (hm:Meth X.K C m f) (F:qm X.prog X.w X.K X.mg X.base CX k f fd ps sp) (hr:zl9 k X.A) (hb:Binds X.K fd ps ds) (hd:Vals dvs ds) (hx:znd CX X E) (ha:PA X (e::es) t)
  (hst:starEach (e::es) X.env=(false,eval e X.env)::starEach es X.env:=by rfl) (hpl:(backTo pos (starEach es X.env)).any (·.1)=false:=by rfl)
  (ht:eval (.Call (.Attribute o m apos) (e::es) [] pos) X.env=(do
   let ov <- eval o X.env
   standAt apos.atName
   let (f,first) <- holding [ov] (getMethod ov m pl)
   callWith pos f first (backTo pos (starEach (e::es) X.env)) (backToKw pos (keywordEach [] X.env))):=by rfl) :
  PE X (.Call (.Attribute o m apos) (e::es) [] pos) (z3t C m sp dvs E ta t):=by
 intro pins s σ H Q I h;refine PySem.W.methodCall_KW (pl:=pl) (thn (he pins s σ H _ I h) fun u s1 ⟨x,H1,I1,rx,a,dx,fs,ex,ea,l,q⟩=>?_) ht;subst ex;obtain rfl:u=Value.ref a:=rx;refine zwa I1 ea c hm l ?_;refine PySem.W.callWith_K (first:=[.ref a]) (h₀:=X.base) I.ok.mod.kin hm.kp (thn (ha pos pins s1 σ H1 _ I1 q) fun us s2 ⟨vs,H2,I2,r,q2⟩=>⟨I2.kIn,?_⟩) hst hpl;exact zyi (us:=.ref a::us) (vs:=.ref a::vs) F hr hb hd hx I2 (.cons rfl r) q2
structure Mk (K:PySem.W.Frag) (C f:Addr):Prop where
 makes:PySem.W.makesIn K C=true
 init:PySem.W.findIn K (.ref C) "__init__"=some (some (.ref f))
 fn:PySem.W.isFn K (.ref f)=true
 kp:PySem.W.keepIn K (.ref C)=true
theorem z0v {pins:List (Addr×Obj)}{σ:St}{H:Hp}{s:Shared}{Q:VK}{us:List Value}{vs:List V} (M:Mk X.K C f) (F:qm X.prog X.w X.K X.mg X.base CX k f fd ps sp) (hr:zl9 (k+1) X.A) (hb:Binds X.K fd ps ds) (hd:Vals dvs ds)
  (hx:znd CX X E) (I:Inv X pins σ H s) (r:Vals vs us)
  (h:∀ x dx,H x=none->H dx=none->dx≠x->sp (.ref x::(vs++dvs)) (upd (upd H dx (.own x)) x (.ins C dx [])) (fun v H2=>v=.non/\Q (.ref x) H2) E) :
  wpAny (model X.prog X.w) X.A (call (.ref C) us) (EP X pins σ Q) X.xe s:=by
 have hq:=h (s.heap.objs.size+1) s.heap.objs.size (I.hok.fresh (Nat.le_succ _)) (I.hok.fresh (Nat.le_refl _)) (Nat.ne_of_lt (Nat.lt_succ_self _));have I2:=Inv.made (C:=C) I;have r2:Vals (V.ref (s.heap.objs.size+1)::(vs++dvs)) (Value.ref (s.heap.objs.size+1)::(us++ds)):=.cons rfl (r.append hd);have hl:(Value.ref (s.heap.objs.size+1)::us++ds).length=ps.length:=by
  have e:=r2.length;rw [F.len _ _ _ _ hq] at e;exact e.symm
 refine wpAny_call (z1i (f:=f) I.kIn M.makes M.init (beq_iff_eq.mp M.fn) (codeAny_mono (F.run _ X.stack _ _ ⟨Value.ref (s.heap.objs.size+1)::us,[]⟩ (Value.ref (s.heap.objs.size+1)::(us++ds)) _ _ E (hr.make C us [])
  (I2.env0.make C us []) (hb _ (Value.ref (s.heap.objs.size+1)::us) I2.kIn hl) r2 hq) fun r s' hq'=>?_))
 cases r with
 |error e=>exact hx pins σ _ _ e s' I2 hq'
 |ok fl =>
  cases fl with
  |ret u =>
   obtain ⟨v,H',I3,rv,ev,q3⟩:=I2.after hq';subst ev;exact ⟨rv,⟨V.ref (s.heap.objs.size+1),H',I3,rfl,q3⟩⟩
  |next=>exact False.elim hq'
  |brk=>exact False.elim hq'
  |cont=>exact False.elim hq'
theorem z4d (M:Mk X.K C f) (F:qm X.prog X.w X.K X.mg X.base CX k f fd ps sp) (hr:zl9 (k+1) X.A) (hg:Gl X x) (hm:X.mg x=some (.ref C)) (hb:Binds X.K fd ps ds) (hd:Vals dvs ds) (hx:znd CX X E)
  (ha:PA X (e::es) t) (hdb:(x==("__debug__":Str))=false:=by decide) (he:starEach (e::es) X.env=(false,eval e X.env)::starEach es X.env:=by rfl) (hpl:(backTo pos (starEach es X.env)).any (·.1)=false:=by rfl) :
  PE X (.Call (.Name x p) (e::es) [] pos) (z3y C sp dvs E t):=by
 intro pins s σ H Q I h;refine wpAny_Call_Name_kw (zq3 I hg hm ?_ hdb);refine PySem.W.callWith_K (h₀:=X.base) I.ok.mod.kin M.kp (thn (ha pos pins s σ H _ I h) fun us s1 ⟨vs,H1,I1,r,q⟩=>⟨I1.kIn,?_⟩) he hpl;exact z0v M F hr hb hd hx I1 r q
end
noncomputable def PK (X:Cx) (kws:List Keyword) (t:TA):Prop :=
 ∀ (pos:Pos) (pins:List (Addr×Obj)) (s:Shared) (σ:St) (H:Hp) (Q:List V->Hp->Prop),Inv X pins σ H s->t σ H Q->wpAny (model X.prog X.w) X.A (evalAll ((backToKw pos (keywordEach kws X.env)).map (·.2))) (AP X pins σ Q) X.xe s
structure z7 (N P:List Str) (sc:Scope):Prop where
 kind:sc.kind=.function
 co:sc.isCoroutine=false
 gen:sc.isGenerator=false
 nd:N.Nodup
 pre:N.take P.length=P
 par:∀ x∈P,sc.names.lookup x=some .local\/sc.names.lookup x=some .cell
 nofree:∀ y∈sc.names,y.2≠.free
theorem zrq {kindOf:Str->Option NameKind}{x:Str}:∀ {binds:List (Str×Value)}{m:Str->Option Value},(∀ v,(x,v)∉binds)->bindL kindOf binds m x=m x
 |[],_,_=>rfl
 |(n,v)::r,m,h=>by
  unfold bindL;rw [zrq fun w hw=>h w (List.mem_cons_of_mem _ hw)];split
  ·have:x≠n:=by rintro rfl;exact h v List.mem_cons_self
   simp [this]
  ·rfl
theorem zsb {kindOf:Str->Option NameKind}{x:Str}:∀ {binds:List (Str×Value)}{m:Str->Option Value},(∀ v,(x,v)∉binds)->bindC kindOf binds m x=m x
 |[],_,_=>rfl
 |(n,v)::r,m,h=>by
  unfold bindC;rw [zsb fun w hw=>h w (List.mem_cons_of_mem _ hw)];split
  ·rfl
  ·have:x≠n:=by rintro rfl;exact h v List.mem_cons_self
   simp [this]
theorem zr5 {kindOf:Str->Option NameKind}{x:Str}{v:Value}:∀ {P:List Str}{vs:List Value}{i:Nat}{m:Str->Option Value},P.Nodup->P[i]?=some x->vs[i]?=some v->kindOf x=some .local ->
  bindL kindOf (P.zip vs) m x=some v
 |[],_,_,_,_,h,_,_=>by simp at h
 |_::_,[],_,_,_,_,h,_=>by simp at h
 |p::P,w::vs,0,m,nd,h1,h2,hk=>by
  simp at h1 h2;subst h1;subst h2
  show bindL kindOf ((p,w)::P.zip vs) m p=_
  unfold bindL;rw [zrq fun v hv=>(List.nodup_cons.mp nd).1 (List.of_mem_zip hv).1,if_pos hk];simp
 |p::P,w::vs,i+1,m,nd,h1,h2,hk=>by
  show bindL kindOf ((p,w)::P.zip vs) m x=_
  unfold bindL;exact zr5 (i:=i) (List.nodup_cons.mp nd).2 (by simpa using h1) (by simpa using h2) hk
theorem zrm {kindOf:Str->Option NameKind}{x:Str}{v:Value}:∀ {P:List Str}{vs:List Value}{i:Nat}{m:Str->Option Value},P.Nodup->P[i]?=some x->vs[i]?=some v->kindOf x≠some .local ->
  bindC kindOf (P.zip vs) m x=some v
 |[],_,_,_,_,h,_,_=>by simp at h
 |_::_,[],_,_,_,_,h,_=>by simp at h
 |p::P,w::vs,0,m,nd,h1,h2,hk=>by
  simp at h1 h2;subst h1;subst h2
  show bindC kindOf ((p,w)::P.zip vs) m p=_
  unfold bindC;rw [zsb fun v hv=>(List.nodup_cons.mp nd).1 (List.of_mem_zip hv).1,if_neg hk];simp
 |p::P,w::vs,i+1,m,nd,h1,h2,hk=>by
  show bindC kindOf ((p,w)::P.zip vs) m x=_
  unfold bindC;exact zrm (i:=i) (List.nodup_cons.mp nd).2 (by simpa using h1) (by simpa using h2) hk
noncomputable def start (N:List Str) (vs:List V):St:=vs.map some++List.replicate (N.length-vs.length) none
noncomputable def zuj (CX:CXT) (P:Program) (w:World) (K:PySem.W.Frag) (mg:Str->Option Value) (base:Heap) (N:List Str) (qual:Str) (scope:Scope) (f:Addr) (cd:Value) (A:Around) (outer:List Env) (s:Shared) (H:Hp) (E:XK):Cx where
 prog:=P
 w:=w
 K:=K
 mg:=mg
 base:=base
 A:=A.deeper (envOfC qual scope s.heap.objs.size f cd)
 N:=N
 s₀:=s
 H₀:=H
 env:=envOfC qual scope s.heap.objs.size f cd
 outer:=outer
 stack:=envOfC qual scope s.heap.objs.size f cd::outer
 ex:=[]
 calm:=true
 fn:=fun _=>true
 pn:=[]
 xe:=fun e s'=>wpAny (model P w) (A.deeper (envOfC qual scope s.heap.objs.size f cd)) (leaving (envOfC qual scope s.heap.objs.size f cd) e) (fun _ s''=>CX outer H s E e s'') (fun e' s''=>CX outer H s E e' s'') s'
theorem zu6 {sc:Scope}{n:Nat}{x:Str} (h:sc.names.lookup x=some .cell):∃ c,(cellsFrom n sc.names []).lookup x=some c:=by
 have q:=PySem.W.cellsFrom_some sc.names n [] (.inl h);exact Option.isSome_iff_exists.mp q
theorem zzh {CX:CXT}{P:Program}{w:World}{K:PySem.W.Frag}{mg:Str->Option Value}{base:Heap}{N ps:List Str}{qual:Str}{scope:Scope}{f:Addr}{cd:Value}{A:Around}{outer:List Env}{s s1:Shared}{H:Hp}{E:XK}{us:List Value}{vs:List V}
  (S:z7 N ps scope) (hd:A.handled=none) (e0:z37 P w K mg base A outer s H) (hl:vs.length=ps.length) (r:Vals vs us)
  (x:InCallC s s.heap.objs.size (bindL (envOfC qual scope s.heap.objs.size f cd).kindOf (ps.zip us) fun _=>none) (cellsFrom (s.heap.objs.size+1) scope.names []) (bindC (envOfC qual scope s.heap.objs.size f cd).kindOf (ps.zip us) fun _=>none) s1) :
  Inv (zuj CX P w K mg base N qual scope f cd A outer s H E) [] (start N vs) H s1:=by
 have hpl:ps.length<=N.length:=by have:=congrArg List.length S.pre;rw [List.length_take] at this;lia
 obtain ⟨h1,tk,rfl,hk⟩:=x.done;have noA:∀ b:Addr,b∉(zuj CX P w K mg base N qual scope f cd A outer s H E).ex:=fun b z=>absurd (show b∈([]:List Addr) from z) (by simp);refine ⟨⟨e0.mod,S.kind,rfl,rfl,Nat.le_refl _,fun y z c h1 h2=>?_,fun y hy=>?_,fun y c _ h=>?_,fun _=>hd,Around.frames_deeper e0.frames,.inr ⟨rfl,rfl⟩,fun b z=>absurd z (noA b),e0.bs,e0.bsz,fun b _ _=>noA b,fun b z=>absurd z (noA b),e0.funs,e0.frf⟩,
  rfl,e0.bare,Un.kept hk,⟨_,x.toInCall.ns,fun i y v h1 h2 h3=>?_⟩,fun y c h=>⟨_,x.cell y c h⟩,e0.hok.fresh (Nat.le_refl _),fun y c h=>?_,fun p hp=>absurd (show p∈([]:List (Addr×Obj)) from hp) (by simp),e0.hok.kept hk,?_⟩
 ·exact name_of_addr x.apart (PySem.mem_of_lookup h1) (PySem.mem_of_lookup h2)
 ·have hy:scope.names.lookup y=some .cell\/scope.names.lookup y=some .free:=hy;rcases hy with hy|hy
  ·exact zu6 hy
  ·exact absurd rfl (S.nofree _ (PySem.mem_of_lookup hy))
 ·exact Nat.le_of_lt (x.above y c (PySem.mem_of_lookup h))
 ·have hi:i<vs.length:=by
   unfold start at h2;by_cases hi:i<vs.length
   ·exact hi
   ·rw [List.getElem?_append_right (by simpa using hi)] at h2;rw [List.getElem?_replicate] at h2;split at h2<;>cases h2
  have ha:vs[i]?=some v:=by
   unfold start at h2;rw [List.getElem?_append_left (by simpa using hi),List.getElem?_map] at h2;cases e:vs[i]? with
   |none=>rw [e] at h2;cases h2
   |some a=>rw [e] at h2;cases h2;rfl
  obtain ⟨u,hu,rv⟩:=r.get ha;have hp:ps[i]?=some y:=by
   rw [<- S.pre,List.getElem?_take_of_lt (by lia)];exact h1
  have ndP:ps.Nodup:=by rw [<- S.pre];exact S.nd.sublist (List.take_sublist _ _)
  refine ⟨u,rv,?_⟩;rcases S.par y (List.mem_of_getElem? hp) with k|k
  ·exact .inl ⟨k,zr5 ndP hp hu k⟩
  ·obtain ⟨c,e⟩:=zu6 (n:=s.heap.objs.size+1) k;refine .inr ⟨.inl k,c,e,?_⟩;have q:=x.cell y c e;rw [zrm ndP hp hu (by show scope.names.lookup y≠_;rw [k];decide)] at q;exact q
 ·exact e0.hok.fresh (Nat.le_of_lt (x.above y c (PySem.mem_of_lookup h)))
 ·unfold start;show _=N.length
  rw [List.length_append,List.length_map,List.length_replicate];lia
theorem z7w {CX:CXT}{P:Program}{w:World}{K:PySem.W.Frag}{mg:Str->Option Value}{base:Heap}{k:Nat}{f:Addr}{name qual:Str}{params:Arguments}{body:List Stmt}{scope:Scope}{dV kV doc pm cdv ct oc:Value}{an od:Option Addr}
  {osl:Array (Option Value)} {N ps:List Str} {sp:Sp} (lk:K.lookup f=some ⟨oc,od,.func (PySem.W.fnOf name qual params body scope dV kV doc pm an cdv ct),osl⟩) (hcd:PySem.W.codeIn K cdv qual=true) (S:z7 N ps scope)
  (len:∀ vs H Q E,sp vs H Q E->vs.length=ps.length)
  (hbody:∀ (A:Around) (outer:List Env) (s:Shared) (H:Hp) (vs:List V) (Q:VK) (E:XK),zl9 k (A.deeper (envOfC qual scope s.heap.objs.size f cdv))->sp vs H Q E ->
   ∃ t,PSs (zuj CX P w K mg base N qual scope f cdv A outer s H E) body t/\t { nx:=fun _ H'=>Q .non H',rt:=Q } (start N vs) H) :
  qm P w K mg base CX (k+1) f (PySem.W.fnOf name qual params body scope dV kV doc pm an cdv ct) ps sp:=by
 refine ⟨len,fun A outer s H args us vs Q E hr e0 hb r hsp=>?_⟩;have hl:=len _ _ _ _ hsp;have KX:K.In s.heap:=e0.mod.kin.keeps fun b o e=>(e0.bs b o e).1;have lim:s.heap.NoLimit:=e0.mod.nolimit.keeps fun b o e=>(e0.bs b o e).1;have hkind:∀ y∈ps.zip us,scope.names.lookup y.1=some .local\/(scope.names.lookup y.1=some .cell/\((cellsFrom (s.heap.objs.size+1) scope.names []).lookup y.1).isSome=true):=fun ⟨n,v⟩ hy=>by
  rcases S.par n (List.of_mem_zip hy).1 with q|q
  ·exact .inl q
  ·exact .inr ⟨q,PySem.W.cellsFrom_some _ _ _ (.inl q)⟩
 refine codeAny_call_function hr.depth (KX _ _ lk) rfl S.co S.gen rfl (PySem.W.codeRec_of KX hcd) (hb _ _ _ _ ?_);refine wpAny_newFunctionEnv_cells S.kind hkind fun env he s1 x=>?_;subst he;refine ⟨lim.keeps x.toInCall.keep,codeAny_func ?_⟩;obtain ⟨t,ht,hq⟩:=hbody A outer s H vs Q E (hr.deeper _) hsp;have I:Inv (zuj CX P w K mg base N qual scope f cdv A outer s H E) [] (start N vs) H s1:=zzh S hr.hd e0 hl r x;refine wpAny_mono (ht [] s1 (start N vs) H _ I hq) (fun fl s' hs=>?_) fun e s' hs=>hs;have fin:∀ {σ':St} {H':Hp} {v:V} {u:Value},Inv (zuj CX P w K mg base N qual scope f cdv A outer s H E) [] σ' H' s'->RelV v u->Q v H'->CE outer P w H s Q u s' :=
  fun {σ' H' v u} J rv q=>⟨v,H',J.os,J.bare,J.base,J.hok,rv,q⟩
 cases fl with
 |ret u =>
  obtain ⟨v,σ',H',J,rv,q⟩:=hs;exact fin J rv q
 |next =>
  obtain ⟨σ',H',J,q⟩:=hs;exact fin (v:=V.non) (u:=Value.none) J rfl q
 |brk =>
  obtain ⟨_,_,_,q⟩:=hs;exact False.elim q
 |cont =>
  obtain ⟨_,_,_,q⟩:=hs;exact False.elim q
section
variable {X:Cx}{x:Str}{p pos:Pos}{e:Expr}{es:List Expr}{t:TA}{id T:String}{r:List V->Hp->VK->Prop}
noncomputable def tCB (r:List V->Hp->VK->Prop) (t:TA):TE:=fun σ H Q=>t σ H fun vs H1=>r vs H1 Q
theorem jk (hc:zca X (.builtin id) r) (hg:Gl X x) (hm:X.mg x=none) (hv:bootBuiltins x=some (.builtin id)) (ha:PA X (e::es) t) (hn:x≠"__name__":=by decide) (hdb:(x==("__debug__":Str))=false:=by decide)
  (he:starEach (e::es) X.env=(false,eval e X.env)::starEach es X.env:=by rfl) (hpl:(backTo pos (starEach es X.env)).any (·.1)=false:=by rfl):PE X (.Call (.Name x p) (e::es) [] pos) (tCB r t):=by
 intro pins s σ H Q I h;refine wpAny_Call_Name_kw (ziy I hg hm hv ?_ hn hdb);exact PyProof.Rows.callWith_builtin1 (thn (ha pos pins s σ H _ I h) fun us s1 ⟨vs,H1,I1,r1,q1⟩=>hc pins s1 σ H1 vs us Q I1 r1 q1) he hpl
theorem ze9 (hc:zca X (.type T) r) (hg:Gl X x) (hm:X.mg x=none) (hv:bootBuiltins x=some (.type T)) (ha:PA X (e::es) t) (hn:x≠"__name__":=by decide) (hdb:(x==("__debug__":Str))=false:=by decide)
  (he:starEach (e::es) X.env=(false,eval e X.env)::starEach es X.env:=by rfl) (hpl:(backTo pos (starEach es X.env)).any (·.1)=false:=by rfl):PE X (.Call (.Name x p) (e::es) [] pos) (tCB r t):=by
 intro pins s σ H Q I h;refine wpAny_Call_Name_kw (ziy I hg hm hv ?_ hn hdb);exact PyProof.Rows.callWith_type1 (thn (ha pos pins s σ H _ I h) fun us s1 ⟨vs,H1,I1,r1,q1⟩=>hc pins s1 σ H1 vs us Q I1 r1 q1) he hpl
end
end L2
namespace HT
open PySem PyProof.Rows
section
open PySem.SeqAt
open PySem.AutoSeq1 (wpAny_loadPart')
open PySem.MeetsSeq PySem.MeetsSeq2 PySem.MeetsSeq3
end
section
variable {prog:Program}{w:World}{A:Around}{E:Value->Shared->Prop}{s:Shared}
noncomputable def sIx (n d:Nat):Option Int->Nat
 |none=>d
 |some v=>if v<0 then (v+(n:Int)).toNat else min v.toNat n
theorem sIx_none (n d:Nat):sIx n d none=d:=rfl
theorem sIx_nat (n d k:Nat):sIx n d (some (k:Int))=min k n:=by
 show (if (k:Int)<0 then ((k:Int)+(n:Int)).toNat else min (k:Int).toNat n)=min k n
 rw [if_neg (by lia),Int.toNat_natCast]
end
end HT
namespace L2
open PySem PySem.Spec PyProof.Rows
noncomputable abbrev TO:=St->Hp->(Option Int->Hp->Prop)->Prop
noncomputable def PO (X:Cx) (e:Option Expr) (t:TO):Prop :=
 ∀ (pins:List (Addr×Obj)) (s:Shared) (σ:St) (H:Hp) (Q:Option Int->Hp->Prop),Inv X pins σ H s->t σ H Q ->
  wpAny (model X.prog X.w) X.A (evalPart e X.env) (fun u s'=>∃ o H',Inv X pins σ H' s'/\IsPart u o/\Q o H') X.xe s
noncomputable def zxp:TO:=fun _ H Q=>Q none H
noncomputable def z47 (t:TE):TO:=fun σ H Q=>t σ H fun x H1=>∃ i,x=.int i/\Q (some i) H1
theorem intsAre_of {ns:List Int}:∀ {us:List Value},Vals (ns.map V.int) us->IntsAre us ns:=by
 induction ns with
 |nil=>intro us r;rw [List.map_nil] at r;cases r;exact .nil
 |cons n ns ih =>
  intro us r;rw [List.map_cons] at r;cases r with
  |cons r1 r2 =>
   obtain ⟨t,e⟩:=r1;subst e;exact .cons n t (ih r2)
section
variable {X:Cx}{e:Expr}{te:TE}{lo hi:Option Expr}{tl th:TO}{pos p2:Pos}
theorem q9:PO X none zxp:=by
 intro pins s σ H Q I h;rw [evalPart_none];exact wpAny_pure ⟨none,H,I,.none,h⟩
theorem j4 (h:PE X e te):PO X (some e) (z47 te):=by
 intro pins s σ H Q I hw;rw [evalPart_some];refine thn (h pins s σ H _ I hw) fun u s1 ⟨x,H1,I1,r1,q1⟩=>?_;obtain ⟨i,rfl,q⟩:=q1;obtain ⟨t,rfl⟩:=r1;exact ⟨some i,H1,I1,.int i t,q⟩
noncomputable def SlR (X:Cx) (r:V->Option Int->Option Int->Hp->VK->Prop):Prop :=
 ∀ (pins:List (Addr×Obj)) (s:Shared) (σ:St) (H:Hp) (x:V) (v vl vu:Value) (lo hi:Option Int) (sl:Addr) (Q:VK),Inv X pins σ H s->RelV x v->s.heap.IsSliceOf sl vl vu .none->IsPart vl lo->IsPart vu hi->r x lo hi H Q ->
  ∃ T id,typeLookup (.type T) "__getitem__"=pure (some (.builtin id))/\s.TypeIs v T/\wpAny (model X.prog X.w) X.A (getItem v (.ref sl)) (EP X pins σ Q) X.xe s
noncomputable def tSl (r:V->Option Int->Option Int->Hp->VK->Prop) (te:TE) (tl th:TO):TE:=fun σ H Q=>te σ H fun x H1=>tl σ H1 fun l H2=>th σ H2 fun u H3=>r x l u H3 Q
theorem ju {r:V->Option Int->Option Int->Hp->VK->Prop} (hr:SlR X r) (he:PE X e te) (hl:PO X lo tl) (hu:PO X hi th):PE X (.Subscript e (.Slice lo hi none p2) pos) (tSl r te tl th):=by
 intro pins s σ H Q I h;refine Subscript_ (thn (he pins s σ H _ I h) fun v s1 ⟨x,H1,I1,r1,q1⟩=>?_);refine wpAny_Slice (thn (hl pins s1 σ H1 _ I1 q1) fun vl s2 ⟨l,H2,I2,pl,q2⟩=>thn (hu pins s2 σ H2 _ I2 q2) fun vu s3 ⟨u,H3,I3,pu,q3⟩=>?_);rw [evalPart_none];refine wpAny_pure ?_;have I4:Inv X pins σ H3 { s3 with heap:=s3.heap.push { cls:=.type "slice",data:=.fields #[vl,vu,.none] } }:=I3.kept (t':=s3.toks) fun b ob q=>Heap.get?_push_of_some _ q;obtain ⟨T,id,hT,ht,hg⟩:=hr pins { s3 with heap:=s3.heap.push { cls:=.type "slice",data:=.fields #[vl,vu,.none] } } σ H3 x v vl vu l u s3.heap.objs.size Q I4 r1 (Heap.IsSliceOf.new ..) pl pu q3;show wpAny (model X.prog X.w) X.A (subscriptTail e (.Slice lo hi none p2) v (.ref s3.heap.objs.size)) (EP X pins σ Q) X.xe { s3 with heap:=s3.heap.push { cls:=.type "slice",data:=.fields #[vl,vu,.none] } }
 exact tail_any (ops:=[.ref s3.heap.objs.size,v]) ht hT hg (by with_unfolding_all rfl)
noncomputable def zzq (xs:List V) (lo hi:Option Int):List V:=(xs.drop (HT.sIx xs.length 0 lo)).take (HT.sIx xs.length xs.length hi-HT.sIx xs.length 0 lo)
theorem ztq (xs:List V) (lo hi:Option Int):(zzq xs lo hi).length<=xs.length:=by
 unfold zzq;rw [List.length_take,List.length_drop];lia
end
noncomputable def ixN (n:Nat) (i:Int):Option Nat:=if 0<=i then (if i<n then some i.toNat else none) else if -(n:Int)<=i then some (i+n).toNat else none
noncomputable def atI {α:Type} (xs:List α) (i:Int):Option α:=(ixN xs.length i).bind fun j=>xs[j]?
theorem zxh {n:Nat}{i:Int}{j:Nat} (h:ixN n i=some j):seqIndex? i n=some j/\j<n/\-(n:Int)<=i/\i<n:=by
 unfold ixN at h;by_cases h0:0<=i
 ·rw [if_pos h0] at h;by_cases h1:i<n
  ·rw [if_pos h1] at h;have e:i.toNat=j:=Option.some.inj h;exact ⟨by rw [seqIndex_of h0 h1,e],by lia,by lia,h1⟩
  ·rw [if_neg h1] at h;cases h
 ·rw [if_neg h0] at h;by_cases h1:-(n:Int)<=i
  ·rw [if_pos h1] at h;have e:(i+n).toNat=j:=Option.some.inj h;exact ⟨by rw [seqIndex_neg (by lia) h1,e],by lia,h1,by lia⟩
  ·rw [if_neg h1] at h;cases h
theorem zy3 {α:Type}{xs:List α}{i:Int}{v:α} (h:atI xs i=some v):∃ j,seqIndex? i xs.length=some j/\xs[j]?=some v/\j<xs.length/\-(xs.length:Int)<=i/\i<xs.length:=by
 unfold atI at h;cases e:ixN xs.length i with
 |none=>rw [e] at h;cases h
 |some j =>
  rw [e] at h;obtain ⟨h1,h2,h3,h4⟩:=zxh e;exact ⟨j,h1,h,h2,h3,h4⟩
theorem zua {α:Type}{xs:List α}{j:Nat}{v:α} (h:xs[j]?=some v):atI xs (j:Int)=some v:=by
 have hj:j<xs.length:=(List.getElem?_eq_some_iff.mp h).1;have e:ixN xs.length (j:Int)=some j:=by
  unfold ixN;rw [if_pos (by lia),if_pos (by lia)];simp
 unfold atI;rw [e];exact h
theorem zuq {α:Type} (xs:List α) (v:α):atI (xs++[v]) (-1)=some v:=by
 have hl:(xs++[v]).length=xs.length+1:=by simp
 have e:ixN (xs++[v]).length (-1)=some xs.length:=by
  unfold ixN;rw [hl,if_neg (by decide),if_pos (by lia)];congr 1
  lia
 unfold atI;rw [e];show (xs++[v])[xs.length]?=some v
 simp
noncomputable def zw9 (b:Expr):Prop:=∀ o i,subscripted b false o i=operate [o,i] (getItem o i)
noncomputable def IxR (X:Cx) (r:R2):Prop :=
 ∀ (value slice:Expr) (pins:List (Addr×Obj)) (s:Shared) (σ:St) (H:Hp) (x y:V) (v u:Value) (Q:VK),Inv X pins σ H s->RelV x v->RelV y u->r x y H Q ->
  subscripted slice false v u=operate [v,u] (getItem v u)->wpAny (model X.prog X.w) X.A (subscriptTail value slice v u) (EP X pins σ Q) X.xe s
noncomputable def MtR (X:Cx) (id:String) (r:V->List V->Hp->VK->Prop):Prop :=
 ∀ (pins:List (Addr×Obj)) (s:Shared) (σ:St) (H:Hp) (x:V) (xs:List V) (v:Value) (us:List Value) (Q:VK),Inv X pins σ H s->RelV x v->Vals xs us->r x xs H Q ->
  wpAny (model X.prog X.w) X.A (call (.builtin id) (v::us)) (EP X pins σ Q) X.xe s
section
variable {X:Cx}{a b:Expr}{ta tb:TE}{pos:Pos}
theorem IxR.or {r r':R2} (h:IxR X r) (h':IxR X r'):IxR X (fun x y H Q=>r x y H Q\/r' x y H Q):=by
 intro value slice pins s σ H x y v u Q I rx ry q hs;rcases q with q|q
 ·exact h value slice pins s σ H x y v u Q I rx ry q hs
 ·exact h' value slice pins s σ H x y v u Q I rx ry q hs
theorem z7o {r:R2} (hr:IxR X r) (ha:PE X a ta) (hb:PE X b tb) (hs:zw9 b):PE X (.Subscript a b pos) (tOp r ta tb):=by
 intro pins s σ H Q I h;exact Subscript_ (z7i ha hb I h fun v u s2 x y H2 I2 rx ry q=>hr a b pins s2 σ H2 x y v u Q I2 rx ry q (hs _ _))
noncomputable def z88 (K:PySem.W.Frag):R2:=fun x y H Q=>∃ p xs i v,x=.ref p/\y=.int i/\SqL K H p xs/\atI xs i=some v/\Q v H
noncomputable def z9v (K:PySem.W.Frag):R2:=fun x y H Q=>∃ p xs i v,x=.ref p/\y=.int i/\SqT K H p xs/\atI xs i=some v/\Q v H
theorem z2w:IxR X (z88 X.K):=by
 intro value slice pins s σ H x y v u Q I rx ry h hs;obtain ⟨p,xs,i,z,rfl,rfl,hq,he,q⟩:=h;cases rx
 obtain ⟨t,rfl⟩:=ry;obtain ⟨its,r,pl,hz⟩:=I.list hq;obtain ⟨j,h1,h2,h3,h4,h5⟩:=zy3 he;obtain ⟨w,ew,rw'⟩:=r.get h2;have hl:=r.length;have hn:=zus;have fin:EP X pins σ Q w s:=⟨z,H,I,rw',q⟩
 by_cases h0:0<=i
 ·have hj:i.toNat=j:=by
   rw [seqIndex_of h0 h5] at h1;exact Option.some.inj h1
  exact item_listR pl.isList h0 (by lia) (by rw [hj];simpa using ew) fin hs
 ·have hj:(i+(its.toArray.size:Int)).toNat=j:=by
   rw [seqIndex_neg (by lia) h4] at h1;rw [List.size_toArray,<- hl];exact Option.some.inj h1
  exact subscriptTail_builtinR (x:=w) pl.isList.typeIs slot_list_getitem.lookup
   (wpAny_getItem_list_neg (Q:=fun r s'=>r=w/\EP X pins σ Q r s') pl.isList (by lia) (by rw [List.size_toArray]<;>lia) (by lia) (by rw [hj];simpa using ew) ⟨rfl,fin⟩) hs
theorem z4y:IxR X (z9v X.K):=by
 intro value slice pins s σ H x y v u Q I rx ry h hs;obtain ⟨p,xs,i,z,rfl,rfl,hq,he,q⟩:=h;cases rx
 obtain ⟨t,rfl⟩:=ry;obtain ⟨its,r,pl,hz⟩:=I.tuple hq;obtain ⟨j,h1,h2,h3,h4,h5⟩:=zy3 he;obtain ⟨w,ew,rw'⟩:=r.get h2;have hl:=r.length;have hn:=zus;have fin:EP X pins σ Q w s:=⟨z,H,I,rw',q⟩
 exact subscriptTail_builtinR (x:=w) pl.typeIs slot_tuple_getitem.lookup
  (getItem_tuple (j:=j) (Q:=fun r s'=>r=w/\EP X pins σ Q r s') pl (by lia) (by lia) (by rw [List.size_toArray,<- hl];exact h1) (by simpa using ew) ⟨rfl,fin⟩) hs
theorem zwb (its:List Value) (n j:Nat) (u:Value):Obj.mapSeq (·.setIfInBounds j u) { cls:=.type "list",data:=.seq its.toArray n }={ cls:=.type "list",data:=.seq (its.set j u).toArray n }:=by
 simp [Obj.mapSeq]
theorem Inv.lst {pins:List (Addr×Obj)}{σ:St}{H:Hp}{s:Shared}{p:Addr}{xs:List V} (I:Inv X pins σ H s) (h:H p=some (.lst xs)) :
  ∃ (its:List Value) (n:Nat),Vals xs its/\s.heap.get? p=some { cls:=.type "list",data:=.seq its.toArray n }/\xs.length<=sizeLine:=by
 obtain ⟨z,its,n,r,e⟩:=I.hok p _ h;exact ⟨its,n,r,e,z⟩
theorem Inv.lstUpd {pins:List (Addr×Obj)}{σ:St}{H:Hp}{s:Shared}{p:Addr}{xs ys:List V}{its its':List Value}{n n':Nat}{f:Obj->Obj} (I:Inv X pins σ H s) (h:H p=some (.lst xs))
  (ho:s.heap.get? p=some { cls:=.type "list",data:=.seq its.toArray n }) (hf:f { cls:=.type "list",data:=.seq its.toArray n }={ cls:=.type "list",data:=.seq its'.toArray n' }) (r:Vals ys its') (hz:ys.length<=sizeLine) (t:Nat) :
  Inv X pins σ (upd H p (.lst ys)) { s with heap:=s.heap.update p f,toks:=t }:=by
 have e:(s.heap.update p f).get? p=some { cls:=.type "list",data:=.seq its'.toArray n' }:=by
  rw [Heap.get?_update_self f ho (by rw [hf]<;>rfl),hf]
 refine I.write (x:=p) (e:=p) (by rw [h];trivial) (.inl rfl) (fun b u hb q=>(Heap.get?_update_other _ _ (Ne.symm hb)).trans q) ⟨_,e⟩ ?_;exact ⟨hz,its',n',r,e⟩
noncomputable def z2y:V->V->V->Hp->(Hp->Prop)->Prop:=fun o i v H Q=>∃ p xs k j,o=.ref p/\i=.int k/\H p=some (.lst xs)/\ixN xs.length k=some j/\Q (upd H p (.lst (xs.set j v)))
theorem set_list:z8z X z2y:=by
 intro pins s σ H o i v ov iv u Q I ro ri rv h;obtain ⟨p,xs,k,j,rfl,rfl,hp,hj,q⟩:=h;cases ro
 obtain ⟨t,rfl⟩:=ri;obtain ⟨its,n,r,ho,hz⟩:=I.lst hp;obtain ⟨h1,h2,h3,h4⟩:=zxh hj;have hl:=r.length;have hn:=zus;have I':Inv X pins σ (upd H p (.lst (xs.set j v))) { s with heap:=s.heap.update p (Obj.mapSeq (·.setIfInBounds j u)) } :=
  I.lstUpd hp ho (zwb its n j u) (r.set rv j) (by rw [List.length_set];exact hz) s.toks
 by_cases h0:0<=k
 ·have hk:k.toNat=j:=by
   rw [seqIndex_of h0 h4] at h1;exact Option.some.inj h1
  exact PySem.W.ki_setAt ho h0 (by lia) (by rw [List.size_toArray,<- hl];exact h4) (by rw [hk];exact ⟨_,I',q⟩)
 ·have hk:(k+(its.toArray.size:Int)).toNat=j:=by
   rw [seqIndex_neg (by lia) h3] at h1;rw [List.size_toArray,<- hl];exact Option.some.inj h1
  exact PySem.W.ki_setBack ho (by lia) (by rw [List.size_toArray,<- hl];exact h3) (by lia) (by rw [hk];exact ⟨_,I',q⟩)
theorem zs2 (lo hi:Option Int) (n:Nat):(sliceBounds lo hi none n).1=((HT.sIx n 0 lo:Nat):Int)/\(sliceBounds lo hi none n).2.1=((HT.sIx n n hi:Nat):Int)/\(sliceBounds lo hi none n).2.2=1:=by
 refine ⟨?_,?_,rfl⟩
 ·cases lo with
  |none=>simp [sliceBounds,HT.sIx]
  |some i =>
   simp only [sliceBounds,HT.sIx,Option.getD_none,show (1:Int) > 0 by decide,if_true];by_cases h:i<0
   ·simp only [h,if_true]<;>lia
   ·simp only [h,if_false]<;>lia
 ·cases hi with
  |none=>simp [sliceBounds,HT.sIx]
  |some i =>
   simp only [sliceBounds,HT.sIx,Option.getD_none,show (1:Int) > 0 by decide,if_true];by_cases h:i<0
   ·simp only [h,if_true]<;>lia
   ·simp only [h,if_false]<;>lia
theorem zq2 (its:List Value) (lo hi:Option Int):slicePick its.toArray lo hi none=((its.drop (HT.sIx its.length 0 lo)).take (HT.sIx its.length its.length hi-HT.sIx its.length 0 lo)).toArray:=by
 obtain ⟨h1,h2,h3⟩:=zs2 lo hi its.toArray.size;unfold slicePick;rw [h1,h2,h3];simp only [sliceRange_one,pick_run,List.size_toArray]<;>rfl
noncomputable def z1q (K:PySem.W.Frag):V->Option Int->Option Int->Hp->VK->Prop:=fun x lo hi H Q=>∃ a xs,x=.ref a/\SqL K H a xs/\∀ p,H p=none->Q (.ref p) (upd H p (.lst (zzq xs lo hi)))
theorem yo:SlR X (z1q X.K):=by
 intro pins s σ H x v vl vu lo hi sl Q I rx hs pl pu h;obtain ⟨a,xs,rfl,hx,q⟩:=h;cases rx
 obtain ⟨its,r,ht,hz⟩:=I.list hx;have hlen:=r.length;refine ⟨"list",_,slot_list_getitem.lookup,ht.isList.typeIs,?_⟩;refine wpAny_getItem_list_slice ht.isList hs pl pu .none (by simp) ?_ (by rw [List.size_toArray]<;>lia);rw [zq2,<- hlen];refine ⟨.ref s.heap.objs.size,_,I.laid (t':=s.toks) (o:=.lst (zzq xs lo hi)) (fun b ob q=>Heap.get?_push_of_some _ q) (Nat.le_refl _) ?_,rfl,q _ (I.hok.fresh (Nat.le_refl _))⟩;exact ⟨Nat.le_trans (ztq xs lo hi) hz,_,0,(r.drop (HT.sIx xs.length 0 lo)).take (HT.sIx xs.length xs.length hi-HT.sIx xs.length 0 lo),Heap.get?_push_size _ rfl⟩
noncomputable def zq1:V->Bool
 |.non=>true
 |.bl _=>true
 |.int _=>true
 |.str _=>true
 |_=>false
noncomputable def eqV:V->V->Bool
 |.non,.non=>true
 |.bl a,.bl b=>a==b
 |.bl a,.int b=>(if a then 1 else 0)==b
 |.int a,.bl b=>a==(if b then 1 else 0)
 |.int a,.int b=>a==b
 |.str a,.str b=>a==b
 |_,_=>false
theorem z5z {A:Around}{s:Shared}{y x:V}{u v:Value} (ry:RelV y u) (rx:RelV x v) (fy:zq1 y=true) (fx:zq1 x=true):SeqAt.EqAt A s u v (eqV y x):=by
 cases y with
 |non =>
  cases ry
  cases x with
  |non=>cases rx;exact SeqAt.EqAt.same _
  |bl b=>cases rx;exact SeqAt.EqAt.none_bool b
  |int b=>obtain ⟨t,rfl⟩:=rx;exact SeqAt.EqAt.none_int b t
  |str b=>obtain ⟨t,rfl⟩:=rx;exact SeqAt.EqAt.none_str b t
  |_=>exact absurd (show false=true from fx) Bool.false_ne_true
 |bl a =>
  cases ry
  cases x with
  |non=>cases rx;exact SeqAt.EqAt.bool_none a
  |bl b=>cases rx;exact SeqAt.EqAt.bool_bool a b
  |int b=>obtain ⟨t,rfl⟩:=rx;exact SeqAt.EqAt.bool_int a b t
  |str b=>obtain ⟨t,rfl⟩:=rx;exact SeqAt.EqAt.bool_str a b t
  |_=>exact absurd (show false=true from fx) Bool.false_ne_true
 |int a =>
  obtain ⟨t',rfl⟩:=ry;cases x with
  |non=>cases rx;exact SeqAt.EqAt.int_none a t'
  |bl b=>cases rx;exact SeqAt.EqAt.int_bool a t' b
  |int b=>obtain ⟨t,rfl⟩:=rx;exact SeqAt.EqAt.int_int a t' b t
  |str b=>obtain ⟨t,rfl⟩:=rx;exact SeqAt.EqAt.int_str a t' b t
  |_=>exact absurd (show false=true from fx) Bool.false_ne_true
 |str a =>
  obtain ⟨t',rfl⟩:=ry;cases x with
  |non=>cases rx;exact SeqAt.EqAt.str_none a t'
  |bl b=>cases rx;exact SeqAt.EqAt.str_bool a t' b
  |int b=>obtain ⟨t,rfl⟩:=rx;exact SeqAt.EqAt.str_int a t' b t
  |str b=>obtain ⟨t,rfl⟩:=rx;exact SeqAt.EqAt.str_str a t' b t
  |_=>exact absurd (show false=true from fx) Bool.false_ne_true
 |_=>exact absurd (show false=true from fy) Bool.false_ne_true
noncomputable def eqU (x:V) (u:Value):Bool:=match u with
 |.none=>eqV .non x
 |.bool b=>eqV (.bl b) x
 |.int i _=>eqV (.int i) x
 |.str z _=>eqV (.str z) x
 |_=>false
theorem z2b {x y:V}{u:Value} (r:RelV y u) (f:zq1 y=true):eqU x u=eqV y x:=by
 cases y with
 |non=>cases r;rfl
 |bl b=>cases r;rfl
 |int i=>obtain ⟨t,rfl⟩:=r;rfl
 |str z=>obtain ⟨t,rfl⟩:=r;rfl
 |_=>exact absurd (show false=true from f) Bool.false_ne_true
theorem zoc {x:V}:∀ {xs:List V}{us:List Value},Vals xs us->xs.all zq1=true->us.any (eqU x)=xs.any fun y=>eqV y x
 |_,_,.nil,_=>rfl
 |y::xs,u::us,.cons r t,f=>by
  rw [List.all_cons,Bool.and_eq_true] at f;rw [List.any_cons,List.any_cons,z2b r f.1,zoc t f.2]
theorem zkc {A:Around}{s:Shared}{x:V}{v:Value} (rx:RelV x v) (fx:zq1 x=true):∀ {xs:List V}{us:List Value},Vals xs us->xs.all zq1=true->∀ u∈us,SeqAt.EqAt A s u v (eqU x u)
 |_,_,.nil,_=>fun u hu=>by cases hu
 |y::xs,u::us,.cons r t,f=>fun u' hu=>by
  rw [List.all_cons,Bool.and_eq_true] at f;rcases List.mem_cons.mp hu with rfl|hu
  ·rw [z2b r f.1];exact z5z r rx f.1 fx
  ·exact zkc rx fx t f.2 u' hu
noncomputable def inV (x:V) (xs:List V):Bool:=xs.any fun y=>eqV y x
noncomputable def rIn (K:PySem.W.Frag) (neg:Bool):R2:=fun x y H Q=>∃ p xs,y=.ref p/\(SqL K H p xs\/SqT K H p xs)/\zq1 x=true/\xs.all zq1=true/\Q (.bl (if neg then !inV x xs else inV x xs)) H
theorem zyf:OpR X (compareOp .In) (rIn X.K false):=by
 intro pins s σ H x y v u Q I rx ry h;obtain ⟨p,xs,rfl,hq,fx,fs,q⟩:=h;cases ry
 rcases hq with hq|hq
 ·obtain ⟨its,r,pl,hz⟩:=I.list hq;refine SeqAt.in_listAt (eqU x) pl.isList (fun w hw=>zkc rx fx r fs w (by simpa using hw)) ⟨.bl _,H,I,rfl,?_⟩;rw [show its.toArray.any (eqU x)=its.any (eqU x) by simp,zoc r fs];exact q
 ·obtain ⟨its,r,pl,hz⟩:=I.tuple hq;refine SeqAt.in_tupleAt (eqU x) pl (fun w hw=>zkc rx fx r fs w (by simpa using hw)) ⟨.bl _,H,I,rfl,?_⟩;rw [show its.toArray.any (eqU x)=its.any (eqU x) by simp,zoc r fs];exact q
theorem zr0:OpR X (compareOp .NotIn) (rIn X.K true):=by
 intro pins s σ H x y v u Q I rx ry h;obtain ⟨p,xs,rfl,hq,fx,fs,q⟩:=h;cases ry
 rcases hq with hq|hq
 ·obtain ⟨its,r,pl,hz⟩:=I.list hq;refine SeqAt.notIn_listAt (eqU x) pl.isList (fun w hw=>zkc rx fx r fs w (by simpa using hw)) ⟨.bl _,H,I,rfl,?_⟩;rw [show its.toArray.any (eqU x)=its.any (eqU x) by simp,zoc r fs];exact q
 ·obtain ⟨its,r,pl,hz⟩:=I.tuple hq;refine SeqAt.notIn_tupleAt (eqU x) pl (fun w hw=>zkc rx fx r fs w (by simpa using hw)) ⟨.bl _,H,I,rfl,?_⟩;rw [show its.toArray.any (eqU x)=its.any (eqU x) by simp,zoc r fs];exact q
theorem zr3:zca X (.builtin "len") (fun xs H Q=>∃ p ys,xs=[.ref p]/\(SqL X.K H p ys\/SqT X.K H p ys)/\Q (.int ys.length) H):=by
 intro pins s σ H xs us Q I r h;obtain ⟨p,ys,rfl,hq,q⟩:=h;obtain ⟨u,rfl,rx⟩:=vals1 r;cases rx
 have hn:=zus;rcases hq with hq|hq
 ·obtain ⟨its,r',pl,hz⟩:=I.list hq;have hlen:=r'.length;exact Calls.call_len_list pl.isList (by simp only [List.size_toArray]<;>lia) ⟨.int ys.length,H,I.tok _,⟨s.toks+1,by rw [List.size_toArray,hlen]⟩,q⟩
 ·obtain ⟨its,r',pl,hz⟩:=I.tuple hq;have hlen:=r'.length;exact len_tuple pl (by simp only [List.size_toArray]<;>lia) ⟨.int ys.length,H,I.tok _,⟨s.toks+1,by rw [List.size_toArray,hlen]⟩,q⟩
theorem zca.or {f:Value}{r r':List V->Hp->VK->Prop} (h:zca X f r) (h':zca X f r'):zca X f (fun xs H Q=>r xs H Q\/r' xs H Q):=by
 intro pins s σ H xs us Q I rs q;rcases q with q|q
 ·exact h pins s σ H xs us Q I rs q
 ·exact h' pins s σ H xs us Q I rs q
theorem zrx:zca X (.type "list") (fun xs H Q=>∃ p ys,xs=[.ref p]/\(SqL X.K H p ys\/SqT X.K H p ys)/\∀ l,H l=none->Q (.ref l) (upd H l (.lst ys))):=by
 intro pins s σ H xs us Q I r h;obtain ⟨p,ys,rfl,hq,q⟩:=h;obtain ⟨u,rfl,rx⟩:=vals1 r;cases rx
 have fin:∀ (its:List Value),Vals ys its->ys.length<=sizeLine->∀ (h':Heap) (c':Nat),(∀ b o',s.heap.get? b=some o'->h'.get? b=some o') ->
   h'.get? s.heap.objs.size=some { cls:=.type "list",dict:=none,data:=.seq its.toArray c',slots:=#[] }->EP X pins σ Q (.ref s.heap.objs.size) { s with heap:=h' }:=fun its r' hz h' c' kp e =>
  ⟨.ref s.heap.objs.size,_,I.laid (t':=s.toks) kp (Nat.le_refl _) (show wk X.prog X.w _ h' _ (.lst ys) from ⟨hz,its,c',r',e⟩),rfl,q _ (I.hok.fresh (Nat.le_refl _))⟩
 rcases hq with hq|hq
 ·obtain ⟨its,r',pl,hz⟩:=I.list hq;have hlen:=r'.length;obtain ⟨o,ho,hc,n,hd⟩:=pl.isList;exact call_list_seq p (.inl rfl) ho hc hd (fun h' c' kp e=>fin its r' hz h' c' kp e) (by simp only [List.size_toArray]<;>lia)
 ·obtain ⟨its,r',pl,hz⟩:=I.tuple hq;have hlen:=r'.length;obtain ⟨o,ho,hc,n,hd⟩:=pl;exact call_list_seq p (.inr rfl) ho hc hd (fun h' c' kp e=>fin its r' hz h' c' kp e) (by simp only [List.size_toArray]<;>lia)
noncomputable def tyV (K:PySem.W.Frag) (T:String) (x:V) (H:Hp):Prop:=match x with
 |.str _=>T="str"
 |.int _=>T="int"
 |.ref p=>(T="list"/\∃ xs,SqL K H p xs)\/(T="tuple"/\∃ o,K.lookup p=some o/\o.cls=.type "tuple"/\o.dict=none) \/
   (T="dict"/\((∃ kvs,H p=some (.dK kvs))\/∃ kvs,H p=some (.dT kvs)))\/(T="set"/\∃ S n,H p=some (.set S n))
 |_=>False
theorem z15 {pins:List (Addr×Obj)}{σ:St}{H:Hp}{s:Shared}{T:String}{x:V}{v:Value} (I:Inv X pins σ H s) (r:RelV x v) (ty:tyV X.K T x H) :
  s.TypeIs v T/\∀ a,v=.ref a->∃ ob,s.heap.get? a=some ob/\ob.dict=none:=by
 cases x with
 |str z =>
  obtain ⟨t,rfl⟩:=r;cases (show T="str" from ty)
  exact ⟨typeIs_str s z t,fun _ e=>nomatch e⟩
 |int i =>
  obtain ⟨t,rfl⟩:=r;cases (show T="int" from ty)
  exact ⟨typeIs_int s i t,fun _ e=>nomatch e⟩
 |ref p =>
  cases r
  rcases ty with ⟨rfl,xs,hq⟩|⟨rfl,o,hk,hc,hd⟩|⟨rfl,hk⟩|⟨rfl,S,n,hk⟩
  ·obtain ⟨its,_,pl,_⟩:=I.list hq;refine ⟨pl.isList.typeIs,fun a e=>?_⟩;cases e
   obtain ⟨o,n,e,c,hd,_⟩:=pl;exact ⟨o,e,hd⟩
  ·refine ⟨⟨o,I.kIn p o hk,hc⟩,fun a e=>?_⟩;cases e
   exact ⟨o,I.kIn _ o hk,hd⟩
  ·have z:∃ o,s.heap.get? p=some o/\o.ExactDict:=by
    rcases hk with ⟨kvs,hk⟩|⟨kvs,hk⟩
    ·obtain ⟨_,_,_,_,o,_,_,e,ex,_⟩:=I.hok p _ hk;exact ⟨o,e,ex⟩
    ·obtain ⟨_,_,_,_,o,_,_,e,ex,_⟩:=I.hok p _ hk;exact ⟨o,e,ex⟩
   obtain ⟨o,e,ex⟩:=z;refine ⟨⟨o,e,ex.1⟩,fun a e2=>?_⟩;cases e2
   exact ⟨o,e,ex.2.1⟩
  ·obtain ⟨o,_,_,_,e,ex,_⟩:=I.hok p _ hk;refine ⟨⟨o,e,ex.1⟩,fun a e2=>?_⟩;cases e2
   exact ⟨o,e,ex.2.1⟩
 |_=>exact False.elim ty
noncomputable def z9h (K:PySem.W.Frag) (T:String) (r:V->List V->Hp->VK->Prop) (to:TE):TE:=fun σ H Q=>to σ H fun x H1=>tyV K T x H1/\r x [] H1 Q
noncomputable def tBM (K:PySem.W.Frag) (T:String) (r:V->List V->Hp->VK->Prop) (to:TE) (t:TA):TE:=fun σ H Q=>to σ H fun x H1=>tyV K T x H1/\t σ H1 fun xs H2=>r x xs H2 Q
variable {o e:Expr}{es:List Expr}{to:TE}{t:TA}{name:Str}{apos cpos:Pos}{T id:String}{r:V->List V->Hp->VK->Prop}
theorem zza (pa:PlainAttrs T) (slot:Slot T name id) (hty:typeOf (.builtin id)=pure (.type "method_descriptor")) (hm:MtR X id r) (ho:PE X o to)
  (hbase:attributeBase o name X.env (eval o X.env)=eval o X.env:=by rfl) (hline:(apos.endLine==cpos.line)=true:=by rfl):PE X (.Call (.Attribute o name apos) [] [] cpos) (z9h X.K T r to):=by
 intro pins s σ H Q I h;refine wpAny_Call_method0_late hbase hline (thn (ho pins s σ H _ I h) fun v s1 ⟨x,H1,I1,r1,ty,q1⟩=>?_);obtain ⟨h1,h2⟩:=z15 I1 r1 ty;exact ⟨T,id,pa,slot,hty,h1,h2,Calls.callWith_builtin rfl (PySem.evalArgs_none (hm pins s1 σ H1 x [] v [] Q I1 r1 .nil q1))⟩
theorem z8f (pa:PlainAttrs T) (slot:Slot T name id) (hty:typeOf (.builtin id)=pure (.type "method_descriptor")) (hm:MtR X id r) (ho:PE X o to) (ha:PA X (e::es) t)
  (hbase:attributeBase o name X.env (eval o X.env)=eval o X.env:=by rfl)
  (hfew:((backTo cpos (starEach (e::es) X.env)).all (fun x=>!x.1)&&(backToKw cpos (keywordEach [] X.env)).all (fun x=>x.1.isSome)
   && decide ((e::es).length+([]:List Keyword).length+(if ([]:List Keyword).isEmpty then 0 else 1)<30))=true:=by rfl)
  (hline:(apos.endLine==cpos.line)=true:=by rfl) (hs:starEach (e::es) X.env=(false,eval e X.env)::starEach es X.env:=by rfl) (hplain:(backTo cpos (starEach es X.env)).any (·.1)=false:=by rfl) :
  PE X (.Call (.Attribute o name apos) (e::es) [] cpos) (tBM X.K T r to t):=by
 intro pins s σ H Q I h;refine wpAny_Call_method_late hbase hfew hline rfl (thn (ho pins s σ H _ I h) fun v s1 ⟨x,H1,I1,r1,ty,q1⟩=>?_);obtain ⟨h1,h2⟩:=z15 I1 r1 ty;refine ⟨T,id,pa,slot,hty,h1,h2,?_⟩;have hA:=ha cpos pins s1 σ H1 _ I1 q1;rw [hs] at hA ⊢;refine Calls.callWith_builtin (by show (false||(backTo cpos (starEach es X.env)).any (·.1))=false;rw [hplain]<;>rfl) (Calls.evalArgs_plain ?_);exact thn hA fun us s2 ⟨vs,H2,I2,r2,q2⟩=>hm pins s2 σ H2 x vs v us Q I2 r1 r2 q2
/- xs.append(e),list.index on a module's tuple .. are MtR facts of 06m -/
end
noncomputable def MtM (X:Cx) (id:String) (r:V->List V->Hp->VK->Prop):Prop :=
 ∀ (pins:List (Addr×Obj)) (s:Shared) (σ:St) (H:Hp) (x:V) (xs:List V) (v:Value) (us:List Value) (Q:VK),Inv X pins σ H s->RelV x v->Vals xs us->r x xs H Q ->
  wpAny (model X.prog X.w) X.A (call (.builtin id) (v::us)) (EP X pins σ Q) X.xe s
theorem Vals.one:∀ {x:V}{us:List Value},Vals [x] us->∃ u,us=[u]/\RelV x u
 |_,_,.cons r .nil=>⟨_,rfl,r⟩
theorem Vals.zero:∀ {us:List Value},Vals [] us->us=[]
 |_,.nil=>rfl
theorem Vals.dropLast {xs:List V}{us:List Value} (h:Vals xs us):Vals xs.dropLast us.dropLast:=by
 induction h with
 |nil=>exact .nil
 |cons r t ih =>
  cases t with
  |nil=>exact .nil
  |cons q t'=>exact .cons r ih
theorem Vals.reverse {xs:List V}{us:List Value} (h:Vals xs us):Vals xs.reverse us.reverse:=by
 induction h with
 |nil=>exact .nil
 |cons r t ih=>rw [List.reverse_cons,List.reverse_cons];exact Vals.append ih (.cons r .nil)
theorem zv8 {α:Type} (l:List α):l.eraseIdx (l.length-1)=l.dropLast:=by
 induction l with
 |nil=>rfl
 |cons a r ih =>
  cases r with
  |nil=>rfl
  |cons b r =>
   have e:(a::b::r).length-1=((b::r).length-1)+1:=by
    have h1:(a::b::r).length=r.length+2:=rfl;have h2:(b::r).length=r.length+1:=rfl;lia
   rw [e,List.eraseIdx_cons_succ,ih];all_goals rfl
section
variable {X:Cx}{pins:List (Addr×Obj)}{σ:St}{H:Hp}{s:Shared}{l b:Addr}{xs ys zs:List V}
theorem Inv.lset {its its':List Value}{n:Nat}{f:Array Value->Array Value}{t':Nat} (I:Inv X pins σ H s) (hH:H l=some (.lst xs))
  (e:s.heap.get? l=some { cls:=.type "list",data:=.seq its.toArray n }) (hf:f its.toArray=its'.toArray) (hv:Vals ys its') (hz:ys.length<=sizeLine) :
  Inv X pins σ (upd H l (.lst ys)) { s with heap:=s.heap.update l (Obj.mapSeq f),toks:=t' }:=by
 have q:=PySem.IsL.update e f;rw [hf] at q;refine I.write (x:=l) (e:=l) (by rw [hH];exact trivial) (.inl rfl) (fun b' u hb hu=>(Heap.get?_update_other s.heap (Obj.mapSeq f) (Ne.symm hb)).trans hu) ⟨_,q⟩ ?_;exact ⟨hz,its',_,hv,q⟩
theorem Inv.lnew {its:List Value}{t':Nat} (I:Inv X pins σ H s) (hv:Vals ys its) (hz:ys.length<=sizeLine) :
  Inv X pins σ (upd H s.heap.objs.size (.lst ys)) { s with heap:=s.heap.push { cls:=.type "list",data:=.seq its.toArray },toks:=t' } :=
 I.laid (fun _ _ q=>Heap.get?_push_of_some _ q) (Nat.le_refl _) ⟨hz,its,0,hv,Heap.get?_push_size _ rfl⟩
theorem Inv.fresh (I:Inv X pins σ H s):H s.heap.objs.size=none:=I.hok.fresh (Nat.le_refl _)
theorem Inv.lstM (I:Inv X pins σ H s) (hH:H l=some (.lst xs)):xs.length<=sizeLine/\∃ (its:List Value) (n:Nat),Vals xs its/\xs.length=its.length/\s.heap.get? l=some { cls:=.type "list",data:=.seq its.toArray n }:=by
 obtain ⟨z,its,n,r,e⟩:=I.hok l _ hH;exact ⟨z,its,n,r,r.length,e⟩
end
section
variable {X:Cx}
noncomputable def zln:V->List V->Hp->VK->Prop:=fun x vs H Q=>∃ l xs y,x=.ref l/\vs=[y]/\H l=some (.lst xs)/\xs.length<sizeLine/\Q .non (upd H l (.lst (xs++[y])))
theorem zrp:MtM X "list.append" zln:=by
 intro pins s σ H x vs v us Q I rx rv h;obtain ⟨l,xs,y,rfl,rfl,hH,hz,q⟩:=h;cases rx
 obtain ⟨u,rfl,ru⟩:=rv.one;obtain ⟨z,its,n,r,hl,e⟩:=I.lstM hH;refine call_meets F.slot_list_append ⟨_,e,rfl⟩ F.entry_list_append (F.args_list_append_2 _ _) (PySem.list_append l its.toArray n u (by rw [List.size_toArray];lia)) ⟨e,?_⟩;refine ⟨.non,_,I.lset (its':=its++[u]) hH e (by simp) (r.append (.cons ru .nil)) ?_,rfl,q⟩;rw [List.length_append,List.length_singleton];lia
noncomputable def z7h:V->List V->Hp->VK->Prop:=fun x vs H Q=>∃ l xs y,x=.ref l/\vs=[]/\H l=some (.lst xs)/\xs[xs.length-1]?=some y/\Q y (upd H l (.lst xs.dropLast))
theorem z6o:MtM X "list.pop" z7h:=by
 intro pins s σ H x vs v us Q I rx rv h;obtain ⟨l,xs,y,rfl,rfl,hH,hy,q⟩:=h;cases rx
 have hus:=rv.zero;subst hus;obtain ⟨z,its,n,r,hl,e⟩:=I.lstM hH;obtain ⟨u,hu,ru⟩:=r.get hy;have hy':its.toArray[its.toArray.size-1]?=some u:=by
  show its.toArray[its.length-1]?=some u
  rw [<- Array.getElem?_toList,<- hl];exact hu
 refine call_meets F.slot_list_pop ⟨_,e,rfl⟩ F.entry_list_pop (F.args_list_pop_1 _) (MeetsSeq.list_pop_last l its.toArray n u hy' (by rw [List.size_toArray];lia)) ⟨e,?_⟩;refine ⟨y,_,I.lset (its':=its.dropLast) hH e ?_ r.dropLast ?_,ru,q⟩
 ·show its.toArray.eraseIdxIfInBounds (its.toArray.size-1)=its.dropLast.toArray
  rw [List.size_toArray,List.eraseIdxIfInBounds_toArray,zv8]
 ·rw [List.length_dropLast];lia
noncomputable def zql:V->List V->Hp->VK->Prop:=fun x vs H Q=>∃ l xs,x=.ref l/\vs=[]/\H l=some (.lst xs)/\Q .non (upd H l (.lst xs.reverse))
theorem zwk:MtM X "list.reverse" zql:=by
 intro pins s σ H x vs v us Q I rx rv h;obtain ⟨l,xs,rfl,rfl,hH,q⟩:=h;cases rx
 have hus:=rv.zero;subst hus;obtain ⟨z,its,n,r,hl,e⟩:=I.lstM hH;refine call_meets F.slot_list_reverse ⟨_,e,rfl⟩ F.entry_list_reverse (F.args_list_reverse_1 _) (AutoSeq1.list_reverse_list_0 l its.toArray n (by rw [List.size_toArray];lia)) ⟨e,?_⟩;refine ⟨.non,_,I.lset (its':=its.reverse) hH e (by simp) r.reverse ?_,rfl,q⟩;rw [List.length_reverse];lia
noncomputable def z9b:R2:=fun x y H Q=>∃ l b xs zs,x=.ref l/\y=.ref b/\H l=some (.lst xs)/\H b=some (.lst zs)/\xs.length+zs.length<=sizeLine/\∀ p,H p=none->Q (.ref p) (upd H p (.lst (xs++zs)))
theorem z5p:OpR X (binaryOp .Add) z9b:=by
 intro pins s σ H x y v u Q I rx ry h;obtain ⟨l,b,xs,zs,rfl,rfl,hH,hB,hz,q⟩:=h;cases rx
 cases ry
 obtain ⟨z,its,n,r,hl,e⟩:=I.lstM hH;obtain ⟨z2,its2,n2,r2,hl2,e2⟩:=I.lstM hB;refine PySem.P.add_list e e2 ?_ (by rw [List.size_toArray,List.size_toArray];lia);have ea:its.toArray++its2.toArray=(its++its2).toArray:=by simp
 rw [ea];exact ⟨.ref _,_,I.lnew (t':=s.toks) (r.append r2) (by rw [List.length_append];lia),rfl,q _ I.fresh⟩
end
section
variable {κ:Type} [DecidableEq κ]
noncomputable def zbr (kvs:List (κ×V)) (k:κ):Option V:=(kvs.find? fun kv=>decide (kv.1=k)).map (·.2)
noncomputable def putK (kvs:List (κ×V)) (k:κ) (v:V):List (κ×V) :=
 if (kvs.any fun kv=>decide (kv.1=k))=true then kvs.map (fun kv=>if kv.1=k then (kv.1,v) else kv) else kvs++[(k,v)]
theorem zbj {p:κ×V}{r:List (κ×V)}{k:κ} (e:p.1=k):zbr (p::r) k=some p.2:=by simp [zbr,List.find?_cons,e]
theorem zbk {p:κ×V}{r:List (κ×V)}{k:κ} (e:¬ p.1=k):zbr (p::r) k=zbr r k:=by simp [zbr,List.find?_cons,e]
theorem zfp (k:κ):∀ kvs:List (κ×V),(kvs.any fun kv=>decide (kv.1=k))=(zbr kvs k).isSome
 |[]=>rfl
 |p::r=>by
  rw [List.any_cons];by_cases e:p.1=k
  ·simp only [zbj e,decide_eq_true e,Bool.true_or,Option.isSome_some]
  ·rw [zbk e,decide_eq_false e,Bool.false_or];exact zfp k r
theorem zul (k j:κ) (y:V):∀ kvs:List (κ×V),zbr (kvs.map fun kv=>if kv.1=k then (kv.1,y) else kv) j=(zbr kvs j).map fun x=>if j=k then y else x
 |[]=>rfl
 |p::r=>by
  have ih:=zul k j y r;rw [List.map_cons];by_cases h:p.1=k
  ·rw [if_pos h];by_cases e:p.1=j
   ·rw [zbj (p:=(p.1,y)) e,zbj e,Option.map_some,if_pos (e.symm.trans h)]
   ·rw [zbk (p:=(p.1,y)) e,zbk e,ih]
  ·rw [if_neg h];by_cases e:p.1=j
   ·rw [zbj (p:=p) e,zbj e,Option.map_some,if_neg (fun z=>h (e.trans z))]
   ·rw [zbk (p:=p) e,zbk e,ih]
theorem zrv (k j:κ) (y:V):∀ kvs:List (κ×V),zbr kvs k=none->zbr (kvs++[(k,y)]) j=if j=k then some y else zbr kvs j
 |[],_=>by
  by_cases e:k=j
  ·rw [if_pos e.symm];exact zbj (p:=(k,y)) e
  ·rw [if_neg (fun z=>e z.symm)];exact zbk (p:=(k,y)) e
 |p::r,hn=>by
  rw [List.cons_append];have hk:¬ p.1=k:=fun z=>by rw [zbj z] at hn;cases hn
  rw [zbk hk] at hn;have ih:=zrv k j y r hn;by_cases e:p.1=j
  ·rw [zbj e,zbj e,if_neg (fun z=>hk (e.trans z))]
  ·rw [zbk e,zbk e,ih]
theorem zfj (kvs:List (κ×V)) (k j:κ) (y:V):zbr (putK kvs k y) j=if j=k then some y else zbr kvs j:=by
 unfold putK;by_cases a:(kvs.any fun kv=>decide (kv.1=k))=true
 ·rw [if_pos a,zul];rw [zfp] at a;by_cases e:j=k
  ·obtain ⟨x,hx⟩:=Option.isSome_iff_exists.mp a;rw [if_pos e,e,hx,Option.map_some,if_pos rfl]
  ·rw [if_neg e];cases zbr kvs j with
   |none=>rfl
   |some x=>rw [Option.map_some,if_neg e]
 ·rw [if_neg a];refine zrv k j y kvs ?_;rw [zfp] at a;cases q:zbr kvs k with
  |none=>rfl
  |some x=>rw [q] at a;exact (a rfl).elim
theorem zjc (kvs:List (κ×V)) (k:κ) (v:V):(putK kvs k v).length<=kvs.length+1:=by
 unfold putK;split
 ·rw [List.length_map];lia
 ·rw [List.length_append,List.length_cons,List.length_nil];lia
theorem zs5.isSome_eq {o:Option V}{u:Option Value} (r:zs5 o u):o.isSome=u.isSome:=by
 cases o with
 |none=>cases u with
  |none=>rfl
  |some _=>exact (show False from r).elim
 |some _=>cases u with
  |none=>exact (show False from r).elim
  |some _=>rfl
theorem KV.val {kvs:List (κ×V)}{vs:List (κ×Value)} (r:KV kvs vs) (k:κ):zs5 (zbr kvs k) (valueAt vs k):=by
 unfold KV at r;induction r with
 |nil=>exact True.intro
 |@cons p q ps qs h t ih =>
  obtain ⟨h1,h2⟩:=h;by_cases e:p.1=k
  ·have e':q.1=k:=h1.symm.trans e;have b:valueAt (q::qs) k=some q.2:=by simp [valueAt,List.find?_cons,e']
   rw [zbj e,b];exact h2
  ·have e':¬ q.1=k:=fun z=>e (h1.trans z);have b:valueAt (q::qs) k=valueAt qs k:=by simp [valueAt,List.find?_cons,e']
   rw [zbk e,b];exact ih
theorem KV.any {kvs:List (κ×V)}{vs:List (κ×Value)} (r:KV kvs vs) (k:κ):(kvs.any fun kv=>decide (kv.1=k))=vs.any fun kv=>decide (kv.1=k):=by
 unfold KV at r;induction r with
 |nil=>rfl
 |cons h t ih=>rw [List.any_cons,List.any_cons,ih,h.1]
theorem KV.repl {kvs:List (κ×V)}{vs:List (κ×Value)} (r:KV kvs vs) (k:κ) {y:V}{u:Value} (ry:RelV y u) :
  KV (kvs.map fun kv=>if kv.1=k then (kv.1,y) else kv) (vs.map fun kv=>if kv.1=k then (kv.1,u) else kv):=by
 unfold KV at r ⊢;induction r with
 |nil=>exact .nil
 |@cons p q ps qs h t ih =>
  rw [List.map_cons,List.map_cons];refine .cons ?_ ih;obtain ⟨h1,h2⟩:=h;by_cases e:p.1=k
  ·rw [if_pos e,if_pos (h1.symm.trans e)];exact ⟨h1,ry⟩
  ·rw [if_neg e,if_neg (fun z=>e (h1.trans z))];exact ⟨h1,h2⟩
theorem KV.put {kvs:List (κ×V)}{vs:List (κ×Value)} (r:KV kvs vs) (k:κ) {y:V}{u:Value} (ry:RelV y u):KV (putK kvs k y) (stored vs k u):=by
 unfold putK stored;rw [r.any k];by_cases e:(vs.any fun kv=>decide (kv.1=k))=true
 ·rw [if_pos e,if_pos e];exact r.repl k ry
 ·rw [if_neg e,if_neg e];exact Paired.snoc r ⟨rfl,ry⟩
theorem KV.length {kvs:List (κ×V)}{vs:List (κ×Value)} (r:KV kvs vs):kvs.length=vs.length:=Paired.length r
end
theorem zwf {P:Program}{w:World}{k:Key}{u:Value} (r:RelV (kV k) u):(kh P w).is k u=true:=by
 cases k with
 |inl i=>obtain ⟨t,e⟩:=(show ∃ t,u=Value.int i t from r);subst e;exact ztp P w i t
 |inr x=>obtain ⟨t,e⟩:=(show ∃ t,u=Value.str x t from r);subst e;exact ztl P w x t
theorem zm7 {P:Program}{w:World}:∀ {ks:List Key}{us:List Value},Vals (ks.map kV) us->ItemsAre (kh P w) ks us
 |[],_,r=>by rw [List.map_nil] at r;cases r;exact .nil
 |k::ks,_,r=>by
  rw [List.map_cons] at r;cases r with
  |cons h t=>exact .cons (zwf h) (zm7 t)
noncomputable abbrev KT (H:Hp):List (List Key×V)->List (List Key×Addr×Value)->Prop:=Paired fun p q=>p.1=q.1/\H q.2.1=some (.tup (p.1.map kV))/\RelV p.2 q.2.2
theorem KT.val {H:Hp}{kvs:List (List Key×V)}{xs:List (List Key×Addr×Value)} (r:KT H kvs xs) (k:List Key):zs5 (zbr kvs k) ((atKey xs k).map (·.2)):=by
 induction r with
 |nil=>exact True.intro
 |@cons p q ps qs h t ih =>
  obtain ⟨h1,_,h2⟩:=h;by_cases e:p.1=k
  ·have e':q.1=k:=h1.symm.trans e;have b:atKey (q::qs) k=some q.2:=by simp [atKey,List.find?_cons,e']
   rw [zbj e,b];exact h2
  ·have e':¬ q.1=k:=fun z=>e (h1.trans z);have b:atKey (q::qs) k=atKey qs k:=by simp [atKey,List.find?_cons,e']
   rw [zbk e,b];exact ih
theorem KT.repl {H:Hp}{kvs:List (List Key×V)}{xs:List (List Key×Addr×Value)} (r:KT H kvs xs) (k:List Key) {y:V}{u:Value} (ry:RelV y u) :
  KT H (kvs.map fun kv=>if kv.1=k then (kv.1,y) else kv) (xs.map (putAt k u)):=by
 induction r with
 |nil=>exact .nil
 |@cons p q ps qs h t ih =>
  rw [List.map_cons,List.map_cons];refine .cons ?_ ih;obtain ⟨h1,h2,h3⟩:=h;unfold putAt;by_cases e:p.1=k
  ·rw [if_pos e,if_pos (h1.symm.trans e)];exact ⟨h1,h2,ry⟩
  ·rw [if_neg e,if_neg (fun z=>e (h1.trans z))];exact ⟨h1,h2,h3⟩
theorem KT.put {H:Hp}{kvs:List (List Key×V)}{xs:List (List Key×Addr×Value)} (r:KT H kvs xs) (k:List Key) {b:Addr}{y:V}{u:Value} (hb:H b=some (.tup (k.map kV))) (ry:RelV y u) :
  KT H (putK kvs k y) (storedH xs k b u):=by
 have e:(kvs.any fun kv=>decide (kv.1=k))=(atKey xs k).isSome:=by
  rw [zfp,(r.val k).isSome_eq,Option.isSome_map]
 unfold putK storedH;rw [e];by_cases q:(atKey xs k).isSome=true
 ·rw [if_pos q,if_pos q];exact r.repl k ry
 ·rw [if_neg q,if_neg q];exact Paired.snoc r ⟨rfl,hb,ry⟩
theorem KT.keeps {H H':Hp}{kvs:List (List Key×V)}{xs:List (List Key×Addr×Value)} (r:KT H kvs xs) (ht:∀ b ys,H b=some (.tup ys)->H' b=some (.tup ys)):KT H' kvs xs :=
 Paired.mapP r fun _ _ z=>⟨z.1,ht _ _ z.2.1,z.2.2⟩
section
variable {P:Program}{w:World}{H:Hp}{h:Heap}{a:Addr}
theorem z6v {u:HO} (ok:HOk P w H h) (e:Rd H a u):wk P w H h a u:=e.ok ok
theorem zvl {kvs:List (Key×V)} (ok:HOk P w H h) (e:Rd H a (.dK kvs)):kvs.length<=sizeLine/\(a==sysModules)=false/\∃ vs,KV kvs vs/\h.DictOf (kh P w) a vs :=
 show wk P w H h a (.dK kvs) from z6v ok e
theorem z7u {kvs:List (Key×V)} (ok:HOk P w H h) (e:H a=some (.dK kvs)):kvs.length<=sizeLine/\(a==sysModules)=false/\∃ vs,KV kvs vs/\h.DictOf (kh P w) a vs:=zvl ok (.inl e)
theorem zsu {ks:List Key} (ok:HOk P w H h) (e:H a=some (.tup (ks.map kV))):(tupleKind (kh P w)).is h ks a:=by
 obtain ⟨_,its,r,o,h1,h2,n,h3⟩:=(show wk P w H h a (.tup (ks.map kV)) from ok a _ e)
 exact ⟨o,its.toArray,n,h1,h2,h3,by simpa using zm7 r⟩
theorem zzc {kvs:List (List Key×V)} (ok:HOk P w H h) (e:Rd H a (.dT kvs)):kvs.length<=sizeLine/\(a==sysModules)=false /\
  ∃ xs,KT H kvs xs/\h.DictOfH (tupleKind (kh P w)) a xs:=by
 obtain ⟨z,y,xs,r,o,es,ep,h1,h2,h3,h4,h5⟩:=(show wk P w H h a (.dT kvs) from z6v ok e)
 refine ⟨z,y,xs,r,o,es,ep,h1,h2,h3,h4,fun x hx=>?_,h5⟩;have all:∀ {l:List (List Key×V)} {m:List (List Key×Addr×Value)},KT H l m->∀ x∈m,(tupleKind (kh P w)).is h x.1 x.2.1:=by
  intro l m q;induction q with
  |nil=>intro x hx;exact nomatch hx
  |@cons p q ps qs hq t ih =>
   intro x hx;rcases List.mem_cons.mp hx with e|hx
   ·subst e;exact zsu ok (by rw [<- hq.1];exact hq.2.1)
   ·exact ih x hx
 exact all r x hx
theorem z8j {kvs:List (List Key×V)} (ok:HOk P w H h) (e:H a=some (.dT kvs)):kvs.length<=sizeLine/\(a==sysModules)=false /\
  ∃ xs,KT H kvs xs/\h.DictOfH (tupleKind (kh P w)) a xs:=zzc ok (.inl e)
end
noncomputable def zs6 (H:Hp) (a:Addr) (y:V) (r:Option V):Prop :=
 (∃ kvs k,Rd H a (.dK kvs)/\y=kV k/\r=zbr kvs k)\/∃ kvs k b,Rd H a (.dT kvs)/\y=.ref b/\H b=some (.tup (k.map kV))/\r=zbr kvs k
noncomputable def z0x (H:Hp) (a:Addr) (y v:V) (H':Hp):Prop :=
 (∃ kvs k,H a=some (.dK kvs)/\y=kV k/\kvs.length<sizeLine/\H'=upd H a (.dK (putK kvs k v))) \/
 ∃ kvs k b,H a=some (.dT kvs)/\y=.ref b/\H b=some (.tup (k.map kV))/\kvs.length<sizeLine/\H'=upd H a (.dT (putK kvs k v))
theorem zs6.k {H:Hp}{a:Addr}{kvs:List (Key×V)}{k:Key} (e:H a=some (.dK kvs)):zs6 H a (kV k) (zbr kvs k):=.inl ⟨kvs,k,.inl e,rfl,rfl⟩
theorem zs6.t {H:Hp}{a b:Addr}{kvs:List (List Key×V)}{k:List Key} (e:H a=some (.dT kvs)) (eb:H b=some (.tup (k.map kV))):zs6 H a (.ref b) (zbr kvs k):=.inr ⟨kvs,k,b,.inl e,rfl,eb,rfl⟩
theorem z0x.k {H:Hp}{a:Addr}{kvs:List (Key×V)}{k:Key}{v:V} (e:H a=some (.dK kvs)) (hl:kvs.length<sizeLine):z0x H a (kV k) v (upd H a (.dK (putK kvs k v))):=.inl ⟨kvs,k,e,rfl,hl,rfl⟩
theorem z0x.t {H:Hp}{a b:Addr}{kvs:List (List Key×V)}{k:List Key}{v:V} (e:H a=some (.dT kvs)) (eb:H b=some (.tup (k.map kV))) (hl:kvs.length<sizeLine) :
  z0x H a (.ref b) v (upd H a (.dT (putK kvs k v))):=.inr ⟨kvs,k,b,e,rfl,eb,hl,rfl⟩
section
variable {X:Cx}{pins:List (Addr×Obj)}{σ:St}{H:Hp}{s:Shared}{a:Addr}{y v:V}{u r:Value}{o:Option V}{A:Around}{E:Value->Shared->Prop}
theorem Inv.big (I:Inv X pins σ H s):sysModules<s.heap.objs.size:=by
 have h:mainGlobals<s.heap.objs.size:=(I.mod.glob.keeps I.bk).lt;exact Nat.lt_trans (by decide) h
theorem zya {Q:Value->Shared->Prop} (hu:A.units+1<cLine) (I:Inv X pins σ H s) (g:zs6 H a y (some v)) (ry:RelV y u) (h:∀ w' s',Inv X pins σ H s'->RelV v w'->Q w' s') :
  wpAny (model X.prog X.w) A (getItem (.ref a) u) Q E s:=by
 rcases g with ⟨kvs,k,e,ey,l⟩|⟨kvs,k,b,e,ey,eb,l⟩
 ·subst ey;obtain ⟨z,hd,vs,rel,dd⟩:=zvl I.hok e;obtain ⟨w',hw,rw'⟩:=zs5.some_of (v:=v) (o:=valueAt vs k) (by rw [l];exact rel.val k);exact wpAny_getItem_of (zwf ry) dd.mapOf hw (h w' _ (I.tok _) rw')
 ·subst ey;cases (show u=Value.ref b from ry)
  obtain ⟨z,hd,xs,rel,dd⟩:=zzc I.hok e;obtain ⟨w',hw,rw'⟩:=zs5.some_of (v:=v) (o:=(atKey xs k).map (·.2)) (by rw [l];exact rel.val k);obtain ⟨p,hp,hp2⟩:=Option.map_eq_some_iff.mp hw;refine wpAny_getItem_heap (tupleKind_room_in1 hu) (zsu I.hok eb) dd hp ?_;rw [hp2];exact h w' _ (I.tok _) rw'
theorem qak {Q:Value->Shared->Prop} (hu:A.units+1<cLine) (I:Inv X pins σ H s) (g:zs6 H a y o) (ry:RelV y u) (h:∀ s',Inv X pins σ H s'->Q (.bool o.isSome) s') :
  wpAny (model X.prog X.w) A (compareOp .In u (.ref a)) Q E s:=by
 rcases g with ⟨kvs,k,e,ey,l⟩|⟨kvs,k,b,e,ey,eb,l⟩
 ·subst ey;obtain ⟨z,hd,vs,rel,dd⟩:=zvl I.hok e;refine wpAny_in_of (zwf ry) hd dd.mapOf ?_;rw [<- (rel.val k).isSome_eq,<- l];exact h _ (I.tok _)
 ·subst ey;cases (show u=Value.ref b from ry)
  obtain ⟨z,hd,xs,rel,dd⟩:=zzc I.hok e;refine wpAny_in_heap (tupleKind_room_in1 hu) (zsu I.hok eb) hd dd ?_;have q:=(rel.val k).isSome_eq;rw [Option.isSome_map] at q;rw [<- q,<- l];exact h _ (I.tok _)
theorem z38 {Q:Value->Shared->Prop} (hu:A.units+1<cLine) (I:Inv X pins σ H s) (g:zs6 H a y o) (ry:RelV y u) (h:∀ s',Inv X pins σ H s'->Q (.bool (!o.isSome)) s') :
  wpAny (model X.prog X.w) A (compareOp .NotIn u (.ref a)) Q E s:=by
 rcases g with ⟨kvs,k,e,ey,l⟩|⟨kvs,k,b,e,ey,eb,l⟩
 ·subst ey;obtain ⟨z,hd,vs,rel,dd⟩:=zvl I.hok e;refine wpAny_notIn_of (zwf ry) hd dd.mapOf ?_;rw [<- (rel.val k).isSome_eq,<- l];exact h _ (I.tok _)
 ·subst ey;cases (show u=Value.ref b from ry)
  obtain ⟨z,hd,xs,rel,dd⟩:=zzc I.hok e;refine wpAny_notIn_heap (tupleKind_room_in1 hu) (zsu I.hok eb) hd dd ?_;have q:=(rel.val k).isSome_eq;rw [Option.isSome_map] at q;rw [<- q,<- l];exact h _ (I.tok _)
theorem zxa {h':Heap}{t':Nat}{ob:HO} (I:Inv X pins σ H s) (mu:Mut (H a)) (hs:Heap.SameBut a s.heap h') (he:∃ q,h'.get? a=some q) (new:wk X.prog X.w (upd H a ob) h' a ob) :
  Inv X pins σ (upd H a ob) { s with heap:=h',toks:=t' } :=
 I.write (x:=a) (e:=a) mu (.inl rfl) (fun b q hb z=>(hs.2 b hb).trans z) he new
theorem z5l {P:Program}{w:World}{H':Hp}{h':Heap}{kvs:List (Key×V)}{vs:List (Key×Value)} (z:kvs.length<=sizeLine) (hd:(a==sysModules)=false) (rel:KV kvs vs) (dd:h'.DictOf (kh P w) a vs) :
  wk P w H' h' a (.dK kvs):=⟨z,hd,vs,rel,dd⟩
theorem zw5 {H':Hp}{Q:Unit->Shared->Prop} (hu:A.units+1<cLine) (I:Inv X pins σ H s) (g:z0x H a y v H') (ry:RelV y u) (rv:RelV v r) (h:∀ s',Inv X pins σ H' s'->Q () s') :
  wpAny (model X.prog X.w) A (setItem (.ref a) u r) Q E s:=by
 rcases g with ⟨kvs,k,e,ey,l,eH⟩|⟨kvs,k,b,e,ey,eb,l,eH⟩
 ·subst ey eH;obtain ⟨z,hd,vs,rel,dd⟩:=z7u I.hok e;have hz:vs.length<=sizeLine:=by rw [<- rel.length];exact z
  have hl:(putK kvs k v).length<=sizeLine:=by have:=zjc kvs k v;lia
  refine wpAny_setItem_pairs (hsz:=hz) (zwf ry) dd fun h' dd' hs=>h _ ?_;have he:∃ q,h'.get? a=some q:=let ⟨q,_,_,hq,_⟩:=dd';⟨q,hq⟩;exact zxa I (by rw [e];exact True.intro) hs he (z5l hl hd (rel.put k rv) dd')
 ·subst ey eH;cases (show u=Value.ref b from ry)
  obtain ⟨z,hd,xs,rel,dd⟩:=z8j I.hok e;have hz:xs.length<=sizeLine:=by rw [<- Paired.length rel];exact z
  have hl:(putK kvs k v).length<=sizeLine:=by have:=zjc kvs k v;lia
  refine wpAny_setItem_heap (hsz:=hz) (tupleKind_room_in1 hu) (zsu I.hok eb) dd fun h' dd' hs=>h _ ?_;obtain ⟨q,es,ep,hq,h2,h3,h4,_,h5⟩:=dd';refine zxa I (by rw [e];exact True.intro) hs ⟨q,hq⟩ ⟨hl,hd,_,(rel.put k eb rv).keeps fun c ys ec=>?_,q,es,ep,hq,h2,h3,h4,h5⟩;rw [qz (z22 ec e (fun z=>nomatch z))];exact ec
end
section
variable {X:Cx}{pins:List (Addr×Obj)}{σ:St}{H:Hp}{s:Shared}{a:Addr}{kvs:List (Key×V)}{k:Key}{u:Value}{A:Around}{E:Value->Shared->Prop}
theorem z7g {Q:Value->Shared->Prop} (I:Inv X pins σ H s) (e:Rd H a (.dK kvs)) (h:∀ t s',Inv X pins σ H s'->Q (.int kvs.length t) s'):wpAny (model X.prog X.w) A (call (.builtin "len") [.ref a]) Q E s:=by
 obtain ⟨z,hd,vs,rel,dd⟩:=zvl I.hok e;refine call_len_dict hd dd (by rw [<- rel.length];rw [sizeLine_eq] at z;lia) ?_;rw [<- rel.length];exact h _ _ (I.tok _)
end
noncomputable def z9w (i:Expr):Prop:=∀ ov iv,subscripted i false ov iv=operate [ov,iv] (getItem ov iv)
theorem z36 {prog:Program}{w:World}{A:Around}{E:Value->Shared->Prop}{s:Shared}{env:Env}{value slice:Expr}{pos:Pos}{T id:String}{Q:Value->Shared->Prop}
  (hl:typeLookup (.type T) "__getitem__"=pure (some (.builtin id))) (hs:z9w slice)
  (h:wpAny (model prog w) A (eval value env) (fun o s₁=>wpAny (model prog w) A (eval slice env) (fun i s₂=>s₂.TypeIs o T/\wpAny (model prog w) A (getItem o i) Q E s₂) E s₁) E s) :
  wpAny (model prog w) A (eval (.Subscript value slice pos) env) Q E s:=by
 refine Subscript_ (wpAny_mono h (fun o s₁ h₁=>wpAny_mono h₁ (fun i s₂ h₂=>?_) fun _ _ x=>x) fun _ _ x=>x);obtain ⟨hT,h₂⟩:=h₂;unfold subscriptTail;refine wpAny_bind ?_;rw [getitemInPython_of_ne hT.not_modules];refine wpAny_bind (wpAny_specialOf hT hl ?_);have fin:wpAny (model prog w) A (subscripted slice false o i) (fun r s₃=>wpAny (model prog w) A (letTemporaryGo value o r >>= fun _=>pure r) Q E s₃) E s₂:=by
  rw [hs o i];exact wpAny_operating (wpAny_mono h₂ (fun r s₃ h₃=>wpAny_bind (wpAny_letTemporaryGo (wpAny_pure h₃))) fun _ _ x=>x)
 first
  |exact wpAny_pure (wpAny_bind fin)
  |exact wpAny_bind (wpAny_pure (wpAny_bind fin))
  |exact wpAny_bind fin
theorem zto {X:Cx}{pins:List (Addr×Obj)}{σ:St}{H:Hp}{s:Shared}{a:Addr}{y:V}{o:Option V} (I:Inv X pins σ H s) (g:zs6 H a y o):s.TypeIs (.ref a) "dict":=by
 rcases g with ⟨kvs,k,e,_,_⟩|⟨kvs,k,b,e,_,_,_⟩
 ·obtain ⟨_,_,vs,_,dd⟩:=zvl I.hok e;exact dd.typeIs
 ·obtain ⟨_,_,xs,_,dd⟩:=zzc I.hok e;exact dd.typeIs
noncomputable def z5n (td ty:TE):TE:=fun σ H Q=>td σ H fun x H1=>ty σ H1 fun y H2=>∃ a v,x=.ref a/\zs6 H2 a y (some v)/\Q v H2
noncomputable def z9f (ty td:TE):TE:=fun σ H Q=>ty σ H fun y H1=>td σ H1 fun x H2=>∃ a o,x=.ref a/\zs6 H2 a y o/\Q (.bl o.isSome) H2
noncomputable def zxc (ty td:TE):TE:=fun σ H Q=>ty σ H fun y H1=>td σ H1 fun x H2=>∃ a o,x=.ref a/\zs6 H2 a y o/\Q (.bl (!o.isSome)) H2
noncomputable def z52 (td ty tv:TE):TS:=fun D σ H=>tv σ H fun v H1=>td σ H1 fun x H2=>ty σ H2 fun y H3=>∃ a H4,x=.ref a/\z0x H3 a y v H4/\D.nx σ H4
section
variable {X:Cx}{o i e value:Expr}{pos pos' tpos:Pos}{td ty tv:TE}
theorem z2r (hu:X.A.units+1<cLine) (ho:PE X o td) (hi:PE X i ty) (hs:z9w i):PE X (.Subscript o i pos) (z5n td ty):=by
 intro pins s σ H Q I h;refine z36 PySem.F.slot_dict_getitem.lookup hs (thn (ho pins s σ H _ I h) fun u s1 ⟨x,H1,I1,rx,q1⟩=>thn (hi pins s1 σ H1 _ I1 q1) fun iv s2 ⟨y,H2,I2,ry,a,v,ex,g,q2⟩=>?_);subst ex;obtain rfl:u=Value.ref a:=rx;exact ⟨zto I2 g,zya hu I2 g ry fun w' s3 I3 rw'=>⟨v,H2,I3,rw',q2⟩⟩
theorem zur (hu:X.A.units+1<cLine) (hi:PE X i ty) (ho:PE X o td):PC X .In i o (z9f ty td):=by
 intro pins s σ H Q I h;refine thn (hi pins s σ H _ I h) fun iv s1 ⟨y,H1,I1,ry,q1⟩=>thn (ho pins s1 σ H1 _ I1 q1) fun u s2 ⟨x,H2,I2,rx,a,ov,ex,g,q2⟩=>?_;subst ex;obtain rfl:u=Value.ref a:=rx;exact qak hu I2 g ry fun s3 I3=>⟨.bl ov.isSome,H2,I3,rfl,q2⟩
theorem zh3 (hu:X.A.units+1<cLine) (hi:PE X i ty) (ho:PE X o td):PC X .NotIn i o (zxc ty td):=by
 intro pins s σ H Q I h;refine thn (hi pins s σ H _ I h) fun iv s1 ⟨y,H1,I1,ry,q1⟩=>thn (ho pins s1 σ H1 _ I1 q1) fun u s2 ⟨x,H2,I2,rx,a,ov,ex,g,q2⟩=>?_;subst ex;obtain rfl:u=Value.ref a:=rx;exact z38 hu I2 g ry fun s3 I3=>⟨.bl (!ov.isSome),H2,I3,rfl,q2⟩
theorem zty (hu:X.A.units+1<cLine) (ho:PE X o td) (hi:PE X i ty) (hv:PE X value tv) (hs:swapsWith value (some (.Subscript o i pos')) pos.line X.env=pure false) :
  PS X (.Assign [.Subscript o i pos'] value pos) (z52 td ty tv):=by
 intro pins s σ H D I h;refine wpAny_Assign_Subscript (thn (hv pins s σ H _ I h) fun r s1 ⟨v,H1,I1,rv,q1⟩=>thn (ho pins s1 σ H1 _ I1 q1) fun u s2 ⟨x,H2,I2,rx,q2⟩=>thn (hi pins s2 σ H2 _ I2 q2) fun iv s3 ⟨y,H3,I3,ry,a,H4,ex,g,q3⟩=>?_) hs;subst ex;obtain rfl:u=Value.ref a:=rx;exact zw5 hu I3 g ry rv fun s4 I4=>⟨σ,H4,I4,q3⟩
end
theorem z1f {P:Program}{w:World}{H:Hp} (h:Heap) (hb:sysModules<h.objs.size):wk P w H (h.push { cls:=.type "dict",data:=.dict #[] }) h.objs.size (.dK []) :=
 ⟨Nat.zero_le _,beq_eq_false_iff_ne.mpr (Ne.symm (Nat.ne_of_lt hb)),[],.nil,Heap.DictOf.new h⟩
theorem zub {P:Program}{w:World}{H:Hp} (h:Heap) (hb:sysModules<h.objs.size):wk P w H (h.push { cls:=.type "dict",data:=.dict #[] }) h.objs.size (.dT []) :=
 ⟨Nat.zero_le _,beq_eq_false_iff_ne.mpr (Ne.symm (Nat.ne_of_lt hb)),[],.nil,_,#[],0,Heap.get?_push_size _ rfl,⟨rfl,rfl,rfl⟩,rfl,rfl,List.nodup_nil⟩
noncomputable def z16:TE:=fun _ H Q=>∀ p,H p=none->Q (.ref p) (upd H p (.dK []))
noncomputable def z2h:TE:=fun _ H Q=>∀ p,H p=none->Q (.ref p) (upd H p (.dT []))
section
variable {X:Cx}{pos:Pos}
theorem zuz:PE X (.Dict [] [] pos) z16:=fun pins s σ H Q I h =>
 wpAny_Dict_empty ⟨.ref s.heap.objs.size,_,I.laid (a:=s.heap.objs.size) (o:=.dK []) (t':=s.toks) (fun _ _ q=>Heap.get?_push_of_some _ q) (Nat.le_refl _) (z1f s.heap I.big),rfl,h _ (I.hok.fresh (Nat.le_refl _))⟩
theorem z1j:PE X (.Dict [] [] pos) z2h:=fun pins s σ H Q I h =>
 wpAny_Dict_empty ⟨.ref s.heap.objs.size,_,I.laid (a:=s.heap.objs.size) (o:=.dT []) (t':=s.toks) (fun _ _ q=>Heap.get?_push_of_some _ q) (Nat.le_refl _) (zub s.heap I.big),rfl,h _ (I.hok.fresh (Nat.le_refl _))⟩
end
noncomputable def zy7:List (TE×TE)->St->Hp->(List (V×V)->Hp->Prop)->Prop
 |[],_,H,Q=>Q [] H
 |(tk,tv)::r,σ,H,Q=>tk σ H fun x H1=>tv σ H1 fun y H2=>zy7 r σ H2 fun ps H3=>Q ((x,y)::ps) H3
noncomputable abbrev VV:List (V×V)->List (Value×Value)->Prop:=Paired fun p q=>RelV p.1 q.1/\RelV p.2 q.2
noncomputable def PPs (X:Cx) (pos:Pos) (keys:List (Option Expr)) (values:List Expr) (trs:List (TE×TE)):Prop :=
 ∀ (pins:List (Addr×Obj)) (s:Shared) (σ:St) (H:Hp) (Q:List (V×V)->Hp->Prop),Inv X pins σ H s->zy7 trs σ H Q ->
  wpAny (model X.prog X.w) X.A (evalPairs (pairTrees keys values X.env pos)) (fun vs s'=>∃ ps H',Inv X pins σ H' s'/\VV ps vs/\Q ps H') X.xe s
theorem z3b {X:Cx}{pos:Pos}:PPs X pos [] [] []:=fun pins s σ H Q I h=>pairTrees_nil_walk ⟨[],H,I,.nil,h⟩
theorem z0l {X:Cx}{pos:Pos}{k v:Expr}{ks:List (Option Expr)}{vs:List Expr}{tk tv:TE}{trs:List (TE×TE)} (hk:PE X k tk) (hv:PE X v tv) (hr:PPs X pos ks vs trs) :
  PPs X pos (some k::ks) (v::vs) ((tk,tv)::trs):=fun pins s σ H Q I h =>
 pairTrees_cons_walk (thn (hk pins s σ H _ I h) fun u s1 ⟨x,H1,I1,rx,q1⟩=>thn (hv pins s1 σ H1 _ I1 q1) fun w2 s2 ⟨y,H2,I2,ry,q2⟩ =>
  thn (hr pins s2 σ H2 _ I2 q2) fun ws s3 ⟨ps,H3,I3,rel,q3⟩=>⟨(x,y)::ps,H3,I3,.cons ⟨rx,ry⟩ rel,q3⟩)
noncomputable def zb3 (kvs more:List (Key×V)):List (Key×V):=more.foldl (fun acc kv=>putK acc kv.1 kv.2) kvs
theorem zfu:∀ (more kvs:List (Key×V)),(zb3 kvs more).length<=kvs.length+more.length
 |[],kvs=>by show kvs.length<=kvs.length+0;lia
 |p::r,kvs=>by
  have h1:=zfu r (putK kvs p.1 p.2);have h2:=zjc kvs p.1 p.2;show (zb3 (putK kvs p.1 p.2) r).length<=_
  rw [List.length_cons];lia
end L2
namespace Att
open PySem PySem.W PySem.Calls PyProof.Rows
theorem zmu {P:Params}{h:Heap}:∀ (ns:List Int) (vs:List Value),WellAll P h vs (ns.map WData.int)->IntsAre vs ns:=by
 intro ns;induction ns with
 |nil =>
  intro vs w;rw [List.map_nil] at w;cases w
  exact .nil
 |cons n ns ih =>
  intro vs w;rw [List.map_cons] at w;cases w with
  |cons a b =>
   cases a
   exact .cons _ _ (ih _ b)
theorem zx1 {l:OpenLaw}{n:Nat} (hn:l.most=some n) {P:Params}{h:Heap}{args:List WData}{vals:List Value}
  (hpre:l.row.toRowW.claim.pre args=true) (hwl:WellAll P h vals args) :
  ∃ a vs ns,vals=[Value.ref a]/\args=[WData.list (ns.map WData.int)]/\h.get? a=some { cls:=.type "list",data:=.seq vs.toArray }/\IntsAre vs ns/\ns.length<=n:=by
 have hsh:WShape.hasAll [] args [.list .int]=true:=(pre_splitW hpre).1;have hc:l.pre.holds [] { args:=args }=true:=(pre_splitW hpre).2;obtain ⟨d,r,rfl,h1,h2⟩:=hasAllW_cons hsh;obtain rfl:=hasAllW_nil h2;obtain ⟨xs,rfl,h3⟩:=hasW_list h1;obtain ⟨ns,rfl⟩:=items_int h3;have hlen:ns.length<=n:=by
  unfold OpenLaw.pre at hc;have h4:(WTm.not (.lt (.lit (.int (n:Int))) (.len (.arg 0)))).holds [] { args:=[.list (ns.map .int)] }=true:=by
   have h4:=(holds_andW hc).1;rw [hn] at h4;exact h4
  have h5:=condW_of h4 (w_not (w_lt w_lit (w_len_list (w_arg rfl))));rw [List.length_map] at h5;refine Nat.le_of_not_lt fun q=>?_;have q':(n:Int)<((ns.length:Nat):Int):=by lia
  first
   |(rw [decide_eq_true q'] at h5;exact absurd h5 (by decide))
   |(simp at h5;lia)
 cases hwl with
 |cons w1 w2 =>
  cases w2
  cases w1 with
  |list ho hall=>exact ⟨_,_,ns,rfl,rfl,ho,zmu ns _ hall,hlen⟩
theorem zzj (l:OpenLaw) (args:List WData):l.row.toRowW.claim.post args (.bool true) args=true :=
 postW_of (r:=l.row.toRowW) (X:=(true==true))
  (show WShape.has [] (.bool true) .bool=true by first|rfl|decide|simp [WShape.has,WShape.arms,WShape.armsAll])
  (show (WTm.eq .res (.lit (.bool true))).value [] { args:=args,res:=some (.bool true),after:=args }=some (.bool (true==true)) from w_eq_bool (w_res rfl) w_lit) rfl
theorem ztg {l:OpenLaw}{n:Nat}{q:Program}{loose:List Str}{XP:(Str->Option Value)->Heap->Prop}{YP:World->Heap->Prop}{d:DefRec}
  (hn:l.most=some n) (hdf:d.params.defaults=[])
  (call:∀ (w:World) (s₀ s₁:Shared) (mg mb:Str->Option Value) (fa:Addr) (o:Obj) (pm cd doc:Value) (a:Addr) (vs:List Value) (ns:List Int),
   Ground q loose [] XP w s₀ mg mb s₁.heap->YP w s₁.heap ->
   s₁.heap.get? fa=some o->o.data=.func (docDef d.name d.params d.body d.scope pm cd doc)->s₁.heap.CodeRec cd d.name->mg d.name=some (.ref fa) ->
   s₁.heap.get? a=some { cls:=.type "list",data:=.seq vs.toArray }->IntsAre vs ns->ns.length<=n->s₁.gens=#[] ->
   codeAny (model l.prog w) callerA (.call (.ref fa) ⟨[.ref a],[]⟩) (fun r s'=>r=.ok (.ret (.bool true))/\OldK s₁.heap s'.heap/\s'.os=s₁.os/\AllBare s'.gens) s₁) :
  WalkO q loose XP YP l.row.toRowW d [] (fun f vs=>PySem.call f vs):=by
 intro w s₀ s₁ mg mb G Y fa o pm cd doc dV kV ho hd hcd hD hmg hg args vals as hpre hlay hrd hwl hlo;obtain rfl:dV=.none:=Dflts.none hD hdf;obtain rfl:kV=.none:=Dflts.noKw hD;obtain ⟨a,vs,ns,rfl,rfl,hobj,hints,hlen⟩:=zx1 hn hpre hwl;refine enter_call (codeAny_mono (call w s₀ s₁ mg mb fa o pm cd doc a vs ns G Y ho (fd_plain hd) hcd hmg hobj hints hlen hg) fun r s' hq=>?_);obtain ⟨rfl,h2,h3,h4⟩:=hq;exact ⟨.inl ⟨.bool true,.bool true,[],rfl,fun _=>rfl,.bool true,zzj l _,fun _=>⟨List.Pairwise.nil,fun _ hm=>(nomatch hm)⟩⟩,h2,h3,h4⟩
end Att
namespace L2
open PySem PySem.Spec PyProof.Rows
theorem znw:∀ {vs:List Value}{ns:List Int},IntsAre vs ns->Vals (ns.map V.int) vs
 |_,_,.nil=>.nil
 |_,_,.cons n t h=>.cons ⟨t,rfl⟩ (znw h)
noncomputable def Only (H:Hp):Prop:=∀ b,H b=none\/∃ o xs,H b=some (.frz o (.lst xs))
theorem z0i {P:Program}{w:World}{K:PySem.W.Frag}{mg mb:Str->Option Value}{CX:CXT}{k:Nat}{fa a:Addr}{fd:FuncData}{x:Str}{sp:Sp}{s₁:Shared}{vs:List Value}{ns:List Int}
  (KX:K.In s₁.heap) (hns:s₁.heap.Ns mainGlobals mg) (hb:s₁.heap.Ns builtinsNs mb) (hbb:∀ x:Str,x≠"__name__"->mb x=bootBuiltins x) (hlim:s₁.heap.NoLimit) (hg:s₁.gens=#[])
  (ha:s₁.heap.get? a=some { cls:=.type "list",data:=.seq vs.toArray }) (hi:IntsAre vs ns) (hl:ns.length<=sizeLine) (hr:zl9 k callerA)
  (F:∀ base:Heap,K.In base->base.Ns mainGlobals mg->qm P w K mg base CX k fa fd [x] sp) (hbind:∀ (s:Shared) (u:Value),BindsTo s fd ⟨[u],[]⟩ [(x,u)])
  (hsp:∀ H:Hp,Only H->SqL K H a (ns.map V.int)->sp [.ref a] H (fun v _=>v=.bl true) fun _ _ _=>False)
  (hCX:∀ H e s',CX [] H s₁ (fun _ _ _=>False) e s'->False) :
  codeAny (model P w) callerA (.call (.ref fa) ⟨[.ref a],[]⟩) (fun r s'=>r=.ok (.ret (.bool true))/\OldK s₁.heap s'.heap/\s'.os=s₁.os/\AllBare s'.gens) s₁:=by
 have rv:=znw hi;have lenV:=hi.length
 -- from an abstract heap in which nothing but the script may be tracked
 have core:∀ H:Hp,Only H->SqL K H a (ns.map V.int)->HOk P w H s₁.heap->(∀ b,H b≠none->b=a)->(H a≠none->K.lookup a=none) ->
   codeAny (model P w) callerA (.call (.ref fa) ⟨[.ref a],[]⟩) (fun r s'=>r=.ok (.ret (.bool true))/\OldK s₁.heap s'.heap/\s'.os=s₁.os/\AllBare s'.gens) s₁:=by
  intro H hO hS hok hA hK;have base_of:∀ {b:Addr} {o:Obj},s₁.heap.get? b=some o->H b=none->(z0f s₁.heap H).get? b=some o:=fun e n=>zz0 e n;have noA:∀ {b:Addr} {o:Obj} {es:Array DictEntry} {ep:Nat},s₁.heap.get? b=some o->o.data=.dict es ep->H b=none:=fun {b o es ep} e d=>by
   cases q:H b with
   |none=>rfl
   |some u =>
    have e':b=a:=hA b (by rw [q];simp);subst e';rw [ha] at e;cases e;have d':Data.seq vs.toArray _=Data.dict es ep:=d;cases d'
  have nsK:∀ {b:Addr} {m:Str->Option Value},s₁.heap.Ns b m->(z0f s₁.heap H).Ns b m:=fun {b m} ⟨o,es,ep,e,d,r⟩=>⟨o,es,ep,base_of e (noA e d),d,r⟩
  have hKb:K.In (z0f s₁.heap H):=fun b o e=>base_of (KX b o e) (by
   cases q:H b with
   |none=>rfl
   |some u =>
    have e':b=a:=hA b (by rw [q];simp)
    subst e'
    rw [hK (by rw [q];simp)] at e;cases e)
  have hM:Mod K mg (z0f s₁.heap H):=⟨hKb,nsK hns,⟨mb,nsK hb,hbb⟩,let ⟨mc,h1,h2⟩:=hlim;⟨mc,nsK h1,h2⟩⟩
  have e0:z37 P w K mg (z0f s₁.heap H) callerA [] s₁ H:=⟨rfl,hM,fun b o e=>z2q e,Nat.le_of_eq (zzo _ _),trivial,fun b hb=>absurd (show b∈([]:List Addr) from hb) (by simp),hok,.of_eq hg⟩
  refine codeAny_mono ((F _ hKb (nsK hns)).run callerA [] s₁ H ⟨[.ref a],[]⟩ [.ref a] [.ref a] _ _ hr e0 (hbind s₁ (.ref a)) (.cons rfl .nil) (hsp H hO hS)) fun r s' h=>?_;cases r with
  |error e=>exact (hCX H e s' h).elim
  |ok fl =>
   cases fl with
   |next=>exact False.elim h
   |brk=>exact False.elim h
   |cont=>exact False.elim h
   |ret u =>
    obtain ⟨v,H',os,bare,un,hok',r',q⟩:=h;have q':v=.bl true:=q;subst q';obtain rfl:u=Value.bool true:=r';refine ⟨rfl,OldK.of_keep fun b o e=>?_,os,bare⟩;cases q:H b with
    |none=>exact un.keep b o e q (by intro z;exact absurd (show b∈([]:List Addr) from z) (by simp)) (by simp)
    |some u =>
     rcases hO b with z|⟨ob,xs,z⟩
     ·rw [q] at z;cases z
     ·have z2:=un.frzs b ob _ z;obtain ⟨e1,_⟩:=hok b _ z;obtain ⟨e2,_⟩:=hok' b _ z2;rw [e] at e1;cases e1;exact e2
 cases hk:K.lookup a with
 |some o =>
  -- the script is one of the module's own objects
  have e:=KX a o hk;rw [ha] at e;cases e
  refine core (fun _=>none) (fun _=>.inl rfl) (.inr ⟨_,vs.toArray,_,hk,rfl,rfl,rfl,by rw [List.size_toArray,lenV];exact hl,by simpa using rv⟩) (fun b u z=>by have z':(none:Option HO)=some u:=z;cases z') (fun b z=>absurd rfl z) fun z=>absurd rfl z
 |none =>
  refine core (fun b=>if b=a then some (.frz { cls:=.type "list",data:=.seq vs.toArray } (.lst (ns.map V.int))) else none) (fun b=>?_) (.inl (.inr ⟨{ cls:=.type "list",data:=.seq vs.toArray },if_pos rfl⟩)) (fun b u z=>?_) (fun b z=>?_) fun _=>hk
  ·by_cases hb:b=a
   ·exact .inr ⟨_,_,if_pos hb⟩
   ·exact .inl (if_neg hb)
  ·by_cases hb:b=a
   ·have z':=(if_pos hb).symm.trans z;cases z'
    subst hb;exact ⟨ha,by rw [List.length_map];exact hl,vs,_,rv,ha⟩
   ·have z':=(if_neg hb).symm.trans z;cases z'
  ·by_cases hb:b=a
   ·exact hb
   ·exact absurd (if_neg hb) z
theorem zw0 {l:PySem.W.OpenLaw}{n k:Nat}{q:Program}{loose:List Str}{XP:(Str->Option Value)->Heap->Prop}{YP:World->Heap->Prop}{d:DefRec}{K:Params->PySem.W.Frag}{CX:World->CXT}{sp:World->Sp}{x:Str}
  (hn:l.most=some n) (hn2:n<=sizeLine) (hdf:d.params.defaults=[]) (hr:zl9 k callerA)
  (hY:∀ (w:World) (h:Heap),YP w h->(K w.params).In h)
  (F:∀ (w:World) (mg:Str->Option Value) (fa:Addr) (h:Heap),(K w.params).In h->h.Ns mainGlobals mg->mg d.name=some (.ref fa) ->
   ∃ fd:FuncData,(∀ (s:Shared) (u:Value),BindsTo s fd ⟨[u],[]⟩ [(x,u)]) /\
    ∀ base:Heap,(K w.params).In base->base.Ns mainGlobals mg->qm l.prog w (K w.params) mg base (CX w) k fa fd [x] (sp w))
  (hsp:∀ (w:World) (H:Hp) (a:Addr) (ns:List Int),ns.length<=n->Only H->SqL (K w.params) H a (ns.map V.int)->sp w [.ref a] H (fun v _=>v=.bl true) fun _ _ _=>False)
  (hCX:∀ (w:World) (H:Hp) (s:Shared) (e:Value) (s':Shared),CX w [] H s (fun _ _ _=>False) e s'->False) :
  PySem.W.WalkO q loose XP YP l.row.toRowW d [] (fun f vs=>PySem.call f vs):=by
 refine Att.ztg hn hdf fun w s₀ s₁ mg mb fa o pm cd doc a vs ns G Y ho hd hcd hmg hobj hints hlen hg=>?_;have KX:=hY w _ Y;obtain ⟨fd,hb,hF⟩:=F w mg fa _ KX G.T.g hmg;exact z0i KX G.T.g G.T.b G.T.builtins G.T.nolimit hg hobj hints (Nat.le_trans hlen hn2) hr hF hb (fun H hO hS=>hsp w H a ns hlen hO hS) fun H e s'=>hCX w H s₁ e s'
end L2
/- THE LAST THEOREM (shape;LID,My.* are yours):
  My.Adr: a structure of the addresses that your layer names (classes,functions);My.Txt K t: a structure (Prop) of the equations over K;
  My.txt_mk:{K} {implicit addresses ..} (e1:nsIn K mainGlobals "law"=some (some (.ref f))) (e2:K.lookup f=some ⟨oc,od,.func (fnOf "law" "law" params body scope dV kV doc pm an cdv ct),sl⟩) (e3:codeIn K cdv "law"=true) ..:∃ t,My.Txt K t
set_option maxRecDepth 100000 in
set_option maxHeartbeats 0 in
theorem PySem.Challenge.cw_LID_holds : PySem.Challenge.rw_LID.Holds := by
 w_on;o_law;k_head;(case hw=>w_witness2)
 k_fill
 refine L2.zw0 (l:=PySem.Challenge.rw_LID) (n:=63) (k:=40) (x:="script") (CX:=fun w=>..) (sp:=fun _=>My.zsl) rfl (by decide) rfl ⟨rfl,by decide,by decide⟩ (fun w h Y=>PySem.W.kIn_of Y) ?F ?S ?C;case F =>
  intro w mg fa h KX G hmg;have T:∃ t,My.Txt (L2.KOf KX) t:=by
   dsimp only [L2.KOf]                          -- K must stand as «<heap const> w.params» for k_is;refine' My.txt_mk ?e1 ?e2 ?e3 ..
   (case e1=>PySem.W.k_is)                    -- in the order: a name -> its address -> its object -> its parts
   (case e2=>PySem.W.k_is)
   ..
  obtain ⟨t,T⟩:=T;have e0:=hmg.symm.trans (PySem.W.mg_of KX G T.law);cases e0                                       -- fa is the law's own address
  exact ⟨_,fun s u=>.of_eq rfl,fun base kb nb=>My.law_fn T kb nb⟩     -- if «.of_eq rfl» comes too early: refine' ⟨_,?b,fun base kb nb=>My.law_fn T kb nb⟩;exact fun s u=>.of_eq rfl
 case S=>exact fun w H a ns hl hO hS=>..
 case C=>exact ..
(the tactic k_is has no namespace: write k_is) -/
namespace L2
open PySem PySem.Spec PyProof.Rows
noncomputable def inClass (s:Stmt) (j:Nat):Stmt:=match s with
 |.ClassDef _ _ _ body _ _ _ _ _ _ _=>body.getD j (.Pass ⟨0,0,0,0⟩)
 |_=>.Pass ⟨0,0,0,0⟩
noncomputable def zfs (s:Stmt):Arguments:=match s with
 |.FunctionDef _ a _ _ _ _ _ _ _ _=>a
 |_=>{ posonlyargs:=[],args:=[],vararg:=none,kwonlyargs:=[],kw_defaults:=[],kwarg:=none,defaults:=[] }
noncomputable def zew (s:Stmt):List Stmt:=match s with
 |.FunctionDef _ _ b _ _ _ _ _ _ _=>b
 |_=>[]
noncomputable def zq (s:Stmt):Scope:=match s with
 |.FunctionDef _ _ _ _ _ _ sc _ _ _=>sc
 |_=>{ kind:=.function,names:=[],isGenerator:=false,isCoroutine:=false }
noncomputable abbrev CX0:CXT:=fun _ _ _ _ _ _=>False
noncomputable abbrev E0:XK:=fun _ _ _=>False
theorem zb9 {X:Cx}:znd CX0 X E0:=fun _ _ _ _ _ _ _ h=>h.elim
structure Fun (K:PySem.W.Frag) (x qual:Str) (st:Stmt) (f:Addr) (fd:FuncData):Prop where
 ex:∃ (oc:Value) (od:Option Addr) (kV doc pm:Value) (an:Option Addr) (cdv ct:Value) (osl:Array (Option Value)),
  fd=PySem.W.fnOf x qual (zfs st) (zew st) (zq st) .none kV doc pm an cdv ct/\K.lookup f=some ⟨oc,od,.func fd,osl⟩/\PySem.W.codeIn K cdv qual=true
 kp:PySem.W.keepIn K (.ref f)=true
section
variable {P:Program}{w:World}{K:PySem.W.Frag}{mg:Str->Option Value}{base:Heap}
theorem Fun.ok {x qual:Str}{st:Stmt}{f:Addr}{fd:FuncData}{N ps:List Str}{k:Nat}{sp:Sp} (F:Fun K x qual st f fd) (S:z7 N ps (zq st)) (len:∀ vs H Q E,sp vs H Q E->vs.length=ps.length)
  (hbody:∀ (cdv:Value) (A:Around) (outer:List Env) (s:Shared) (H:Hp) (vs:List V) (Q:VK) (E:XK),zl9 k (A.deeper (envOfC qual (zq st) s.heap.objs.size f cdv))->sp vs H Q E ->
   ∃ t,PSs (zuj CX0 P w K mg base N qual (zq st) f cdv A outer s H E).nox (zew st) t/\t { nx:=fun _ H'=>Q .non H',rt:=Q } (start N vs) H):qm P w K mg base CX0 (k+1) f fd ps sp:=by
 obtain ⟨oc,od,kV,doc,pm,an,cdv,ct,osl,rfl,lk,hcd⟩:=F.ex;refine z7w lk hcd S len fun A outer s H vs Q E hr hsp=>?_;obtain ⟨t,h,q⟩:=hbody cdv A outer s H vs Q E hr hsp;exact ⟨t,h.nox,q⟩
theorem Fun.binds {x qual:Str}{st:Stmt}{f:Addr}{fd:FuncData}{ps:List Str} (F:Fun K x qual st f fd)
  (h:∀ (kV doc pm:Value) (an:Option Addr) (cdv ct:Value) (us:List Value),us.length=ps.length->bindArgs (PySem.W.fnOf x qual (zfs st) (zew st) (zq st) .none kV doc pm an cdv ct) ⟨us,[]⟩=pure (ps.zip us)):Binds K fd ps []:=by
 obtain ⟨oc,od,kV,doc,pm,an,cdv,ct,osl,rfl,lk,hcd⟩:=F.ex;exact .all (h kV doc pm an cdv ct)
theorem zxt {x qual:Str}{st:Stmt}{f:Addr}{oc:Value}{od an:Option Addr}{osl:Array (Option Value)}{kV doc pm cdv ct:Value} (l:K.lookup f=some ⟨oc,od,.func (PySem.W.fnOf x qual (zfs st) (zew st) (zq st) .none kV doc pm an cdv ct),osl⟩)
  (c:PySem.W.codeIn K cdv qual=true) (k:PySem.W.keepIn K (.ref f)=true):Fun K x qual st f (PySem.W.fnOf x qual (zfs st) (zew st) (zq st) .none kV doc pm an cdv ct):=⟨⟨oc,od,kV,doc,pm,an,cdv,ct,osl,rfl,l,c⟩,k⟩
end
section
variable {X:Cx}
theorem pv (i:Nat) {x:Str}{pos:Pos} (hN:X.N[i]?=some x:=by rfl) (hv:Vis X.env.scope x:=by first|exact Or.inl rfl|exact Or.inr (Or.inl rfl)|exact Or.inr (Or.inr rfl)) (hd:(x==("__debug__":Str))=false:=by decide)
  (hcd:(x==("__classdict__":Str))=false:=by decide):PE X (.Name x pos) (zwq i):=z53 hN hv hd hcd
end
theorem z83 {A B:Prop} (h:B):if false=true then A else B:=by
 rw [if_neg Bool.false_ne_true];exact h
theorem z69 {A B:Prop} (h:A):if true=true then A else B:=by
 rw [if_pos rfl];exact h
noncomputable def Same (H H':Hp):Prop:=∀ b o,H b=some o->H' b=some o
theorem Same.refl (H:Hp):Same H H:=fun _ _ h=>h
theorem Same.trans {H H1 H2:Hp} (a:Same H H1) (b:Same H1 H2):Same H H2:=fun c o h=>b c o (a c o h)
theorem Same.free {H H':Hp} (e:Same H H') {l:Addr} (h:H' l=Option.none):H l=Option.none:=by
 cases q:H l with
 |none=>rfl
 |some o =>
  rw [e l o q] at h;cases h
theorem Same.seq {K:PySem.W.Frag}{H H':Hp}{a:Addr}{xs:List V} (e:Same H H') (h:SqL K H a xs):SqL K H' a xs:=by
 rcases h with (h|⟨o,h⟩)|h
 ·exact .inl (.inl (e _ _ h))
 ·exact .inl (.inr ⟨o,e _ _ h⟩)
 ·exact .inr h
section
variable {X:Cx}
theorem zx8:zca X (.builtin "len") (fun xs H Q=>∃ a kvs,xs=[V.ref a]/\H a=some (.dK kvs)/\Q (.int kvs.length) H):=by
 intro pins s σ H xs us Q I r h;obtain ⟨a,kvs,rfl,ha,q⟩:=h;obtain ⟨u,rfl,ru⟩:=vals1 r;cases ru
 exact z7g I (.inl ha) fun t s' I'=>⟨.int kvs.length,H,I',⟨t,rfl⟩,q⟩
end
end L2
set_option maxHeartbeats 4000000
namespace L2
open PySem PySem.Spec PyProof.Rows
noncomputable def zfg (cells:List (Str×Addr)):List (Str×NameKind)->List (Str×Addr)->List (Str×Addr)
 |[],acc=>acc
 |(n,k)::r,acc=>if k==NameKind.free then (match cells.lookup n with
  |some c=>zfg cells r ((n,c)::acc)
  |none=>zfg cells r acc) else zfg cells r acc
theorem zfk (cells:List (Str×Addr)):∀ (ns:List (Str×NameKind)) (acc:List (Str×Addr)),(∀ x c,acc.lookup x=some c->cells.lookup x=some c) ->
  ∀ x c,(zfg cells ns acc).lookup x=some c->cells.lookup x=some c
 |[],acc,h,x,c,e=>h x c e
 |(n,k)::r,acc,h,x,c,e=>by
  unfold zfg at e;by_cases hk:(k==NameKind.free)=true
  ·rw [if_pos hk] at e;cases hc:cells.lookup n with
   |none =>
    rw [hc] at e;exact zfk cells r acc h x c e
   |some d =>
    rw [hc] at e;refine zfk cells r _ (fun y z q=>?_) x c e;rw [List.lookup_cons] at q;by_cases hy:(y==n)=true
    ·rw [hy] at q;have:d=z:=Option.some.inj q;subst this;rw [eq_of_beq hy];exact hc
    ·have hy':(y==n)=false:=by simpa using hy
     rw [hy'] at q;exact h y z q
  ·rw [if_neg hk] at e;exact zfk cells r acc h x c e
theorem zh6 (cells:List (Str×Addr)):∀ (ns:List (Str×NameKind)) (acc:List (Str×Addr)) (x:Str),(acc.lookup x).isSome=true->((zfg cells ns acc).lookup x).isSome=true
 |[],_,_,h=>h
 |(n,k)::r,acc,x,h=>by
  unfold zfg;by_cases hk:(k==NameKind.free)=true
  ·rw [if_pos hk];cases hc:cells.lookup n with
   |none=>exact zh6 cells r acc x h
   |some d =>
    refine zh6 cells r _ x ?_;rw [List.lookup_cons];by_cases hy:(x==n)=true
    ·rw [hy];rfl
    ·have hy':(x==n)=false:=by simpa using hy
     rw [hy'];exact h
  ·rw [if_neg hk];exact zh6 cells r acc x h
theorem zkf (cells:List (Str×Addr)):∀ (ns:List (Str×NameKind)) (acc:List (Str×Addr)) (x:Str) (c:Addr),(x,NameKind.free)∈ns->cells.lookup x=some c->(zfg cells ns acc).lookup x≠none
 |[],_,_,_,h,_=>absurd h (by simp)
 |(n,k)::r,acc,x,c,h,hc=>by
  rcases List.mem_cons.mp h with e|h
  ·have e1:x=n:=congrArg Prod.fst e;have e2:NameKind.free=k:=congrArg Prod.snd e;subst e1;subst e2;unfold zfg;rw [if_pos (by decide),hc];have q:=zh6 cells r ((x,c)::acc) x (by rw [List.lookup_cons];simp);intro z;rw [z] at q;cases q
  ·unfold zfg;by_cases hk:(k==NameKind.free)=true
   ·rw [if_pos hk];cases cells.lookup n with
    |none=>exact zkf cells r acc x c h hc
    |some d=>exact zkf cells r _ x c h hc
   ·rw [if_neg hk];exact zkf cells r acc x c h hc
theorem zn3 (env:Env):∀ (ns:List (Str×NameKind)) (acc:List (Str×Addr)),(∀ n,(n,NameKind.free)∈ns->∃ c,env.cells.lookup n=some c) ->
  (forIn ns acc fun (x:Str×NameKind) (cs:List (Str×Addr)) =>
   (match x with
   |(name,kind)=>if (kind==NameKind.free)=true then do let a <- cellOf env name;pure (ForInStep.yield ((name,a)::cs)) else pure (ForInStep.yield cs):Sem (ForInStep (List (Str×Addr)))))=pure (zfg env.cells ns acc)
 |[],acc,_=>by rw [List.forIn_nil];rfl
 |(n,k)::r,acc,h=>by
  rw [List.forIn_cons];unfold zfg;by_cases hk:(k==NameKind.free)=true
  ·obtain ⟨c,hc⟩:=h n (by rw [eq_of_beq hk];exact List.mem_cons_self);have e:cellOf env n=pure c:=by unfold cellOf;rw [hc]
   simp only [hk,if_true,hc,e,pure_bind];exact zn3 env r _ fun m hm=>h m (List.mem_cons_of_mem _ hm)
  ·simp only [hk,if_false,pure_bind];exact zn3 env r _ fun m hm=>h m (List.mem_cons_of_mem _ hm)
theorem zj1 {scope:Scope}{env:Env} (h:∀ n,(n,NameKind.free)∈scope.names->∃ c,env.cells.lookup n=some c):closureFor scope env=pure (zfg env.cells scope.names []):=by
 have e:=zn3 env scope.names [] h;unfold closureFor;first
  |(simp only [e,pure_bind];done)
  |(rw [show (forIn scope.names ([]:List (Str×Addr)) _:Sem _)=_ from e];rfl)
theorem zeo (env:Env):∀ {names:List (Str×NameKind)}{x:Str}{k:NameKind},
  (names.map fun (n,k)=>if (k==NameKind.free&&env.scope.kind==.function&&env.kindOf n==some .cell) then (n,NameKind.cell) else (n,k)).lookup x=some k ->
  ∃ k',names.lookup x=some k'/\(k=k'\/(k=.cell/\k'=.free))
 |[],_,_,h=>by simp at h
 |(n,j)::r,x,k,h=>by
  by_cases hc:(j==NameKind.free&&env.scope.kind==.function&&env.kindOf n==some .cell)=true
  ·rw [List.map_cons] at h;simp only [hc,if_true] at h;rw [List.lookup_cons] at h ⊢;by_cases hx:(x==n)=true
   ·rw [hx] at h ⊢;have e1:k=NameKind.cell:=(Option.some.inj h).symm;have e2:j=NameKind.free:=by
     have:=hc;simp only [Bool.and_eq_true] at this;exact eq_of_beq this.1.1
    exact ⟨j,rfl,.inr ⟨e1,e2⟩⟩
   ·have hx':(x==n)=false:=by simpa using hx
    rw [hx'] at h ⊢;exact zeo env h
  ·rw [List.map_cons] at h;simp only [hc,Bool.false_eq_true,if_false] at h;rw [List.lookup_cons] at h ⊢;by_cases hx:(x==n)=true
   ·rw [hx] at h ⊢;exact ⟨j,rfl,.inl (Option.some.inj h).symm⟩
   ·have hx':(x==n)=false:=by simpa using hx
    rw [hx'] at h ⊢;exact zeo env h
theorem zg7 (env:Env):∀ {names:List (Str×NameKind)}{x:Str},names.lookup x=some .free ->
  (names.map fun (n,k)=>if (k==NameKind.free&&env.scope.kind==.function&&env.kindOf n==some .cell) then (n,NameKind.cell) else (n,k)).lookup x=some .cell \/
  (names.map fun (n,k)=>if (k==NameKind.free&&env.scope.kind==.function&&env.kindOf n==some .cell) then (n,NameKind.cell) else (n,k)).lookup x=some .free
 |[],_,h=>by simp at h
 |(n,j)::r,x,h=>by
  rw [List.lookup_cons] at h;by_cases hx:(x==n)=true
  ·rw [hx] at h;have e:j=NameKind.free:=Option.some.inj h;subst e;by_cases hc:(NameKind.free==NameKind.free&&env.scope.kind==.function&&env.kindOf n==some .cell)=true
   ·left
    rw [List.map_cons];simp only [hc,if_true];rw [List.lookup_cons,hx]
   ·right
    rw [List.map_cons];simp only [hc,Bool.false_eq_true,if_false];rw [List.lookup_cons,hx]
  ·have hx':(x==n)=false:=by simpa using hx
   rw [hx'] at h;rw [List.map_cons];by_cases hc:(j==NameKind.free&&env.scope.kind==.function&&env.kindOf n==some .cell)=true
   ·simp only [hc,if_true];rw [List.lookup_cons,hx'];exact zg7 env h
   ·simp only [hc,Bool.false_eq_true,if_false];rw [List.lookup_cons,hx'];exact zg7 env h
theorem zeb {α:Type}:∀ {l:List (Str×α)}{x:Str}{k:α},l.lookup x=some k->(x,k)∈l
 |[],_,_,h=>by simp at h
 |(n,j)::r,x,k,h=>by
  rw [List.lookup_cons] at h;by_cases hx:(x==n)=true
  ·rw [hx] at h;have e:j=k:=Option.some.inj h;rw [eq_of_beq hx,e];exact List.mem_cons_self
  ·have hx':(x==n)=false:=by simpa using hx
   rw [hx'] at h;exact List.mem_cons_of_mem _ (zeb h)
noncomputable def inner (k:Nat) (caps:List Nat) (σ:St):St:=List.replicate k none++caps.map fun j=>(σ[j]?).join
noncomputable abbrev zqs (s:Shared):Shared:={ s with heap:=s.heap.push { cls:=.type "list",dict:=none,data:=.seq ([]:List Value).toArray } }
noncomputable def vg (X:Cx) (N:List Str) (scope:Scope) (pins:List (Addr×Obj)) (fp:List Addr) (s:Shared) (H:Hp):Cx where
 prog:=X.prog
 w:=X.w
 K:=X.K
 mg:=X.mg
 base:=X.base
 A:=X.A
 N:=N
 s₀:=zqs s
 H₀:=upd H s.heap.objs.size (.lst [])
 env:=compEnvC scope (zfg X.env.cells scope.names []) (s.heap.objs.size+1) X.env
 outer:=X.stack
 stack:=X.stack
 ex:=fp
 fn:=fun _=>false
 calm:=X.calm
 pn:=X.pn++pins
 xe:=fun _ _=>False
structure Block (X:Cx) (N:List Str) (scope:Scope) (k:Nat) (caps:List Nat):Prop where
 kind:scope.kind=.function
 nocell:∀ y∈scope.names,y.2≠.cell
 frees:∀ y∈scope.names,y.2=.free->X.env.scope.names.lookup y.1=some .cell\/X.env.scope.names.lookup y.1=some .free
 locals:∀ y∈scope.names,y.2=.local->scope.names.lookup y.1=some .local
 len:N.length=k+caps.length
 cap:∀ i j,caps[i]?=some j->∃ x,N[k+i]?=some x/\X.N[j]?=some x/\scope.names.lookup x=some .free
section
variable {X:Cx}{N:List Str}{scope:Scope}{k:Nat}{caps:List Nat}{pins:List (Addr×Obj)}{fp:List Addr}{σ:St}{H:Hp}{s:Shared}{h₁:Heap}{tk:Nat}
theorem zwn (B:Block X N scope k caps) (I:Inv X pins σ H s) (hf:∀ b∈fp,zwr X pins H b) (ho:∀ b∈fp,∃ o,s.heap.get? b=some o)
  (hn:h₁.Ns (s.heap.objs.size+1) (fun _=>none)) (hk:∀ b o,(zqs s).heap.get? b=some o->h₁.get? b=some o) :
  Inv (vg X N scope pins fp s H) [] (inner k caps σ) (upd H s.heap.objs.size (.lst [])) { s with heap:=h₁,toks:=tk }:=by
 have szD:(zqs s).heap.objs.size=s.heap.objs.size+1:=Heap.size_push ..;have upD:∀ b o,s.heap.get? b=some o->(zqs s).heap.get? b=some o:=fun b o e=>Heap.get?_push_of_some _ e;have up:∀ b o,s.heap.get? b=some o->h₁.get? b=some o:=fun b o e=>hk b o (upD b o e);have lt:∀ {b o},s.heap.get? b=some o->b≠s.heap.objs.size:=fun e=>Nat.ne_of_lt (Heap.lt_size e);have ltC:∀ {b o},s.heap.get? b=some o->b≠s.heap.objs.size+1:=fun e=>Nat.ne_of_lt (Nat.lt_succ_of_lt (Heap.lt_size e));have snd:∀ x c,(zfg X.env.cells scope.names []).lookup x=some c->X.env.cells.lookup x=some c:=zfk _ _ _ fun x c e=>by simp at e
 have isfree:∀ x,(relabel scope X.env).names.lookup x=some .cell\/(relabel scope X.env).names.lookup x=some .free->scope.names.lookup x=some .free:=fun x h=>by
  rcases h with h|h
  ·obtain ⟨k',e,z⟩:=zeo X.env h;rcases z with z|⟨_,z⟩
   ·rw [<- z] at e;exact absurd rfl (B.nocell _ (zeb e))
   ·rw [z] at e;exact e
  ·obtain ⟨k',e,z⟩:=zeo X.env h;rcases z with z|⟨z,_⟩
   ·rw [<- z] at e;exact e
   ·cases z
 have hasC:∀ x,scope.names.lookup x=some .free->∃ c,X.env.cells.lookup x=some c:=fun x h=>I.ok.has x (B.frees _ (zeb h) rfl);have hasL:∀ x c,scope.names.lookup x=some .free->X.env.cells.lookup x=some c->(zfg X.env.cells scope.names []).lookup x=some c:=fun x c h hc=>by
  cases e:(zfg X.env.cells scope.names []).lookup x with
  |none=>exact absurd e (zkf _ _ _ x c (zeb h) hc)
  |some d=>rw [<- hc,snd x d e]
 have stk:∀ b∈frs X.stack,H b=none/\b≠s.heap.objs.size:=fun b hb=>⟨I.stkFree b hb,by
  obtain ⟨_,o,e,_⟩:=I.stack.mem hb
  exact lt e⟩
 refine ⟨⟨I.ok.mod,B.kind,I.ok.glob,I.ok.blt,Nat.le_of_eq szD,fun x y c h1 h2=>I.ok.inj x y c (snd x c h1) (snd y c h2),fun x h=>?_,fun x c h=>absurd h (by simp [vg]),I.ok.hd,I.ok.frames,.inl rfl,fun b hb=>?_,fun b o e=>?_,?_,fun b o e hb=>?_,fun b hb hs=>?_,?_,fun b hb=>?_⟩,
  rfl,I.bare,Un.kept hk,⟨_,hn,fun i x v h1 h2 h3=>?_⟩,fun x c h=>?_,?_,fun x c h=>?_,fun p hp=>?_,?_,?_⟩
 ·-- has
  have hfx:=isfree x h;obtain ⟨c,hc⟩:=hasC x hfx;exact ⟨c,hasL x c hfx hc⟩
 ·-- exf
  obtain ⟨o,e⟩:=ho b hb;exact ⟨ltC e,fun x c h=>(hf b hb).2.2.2.2.1 x c (snd x c h)⟩
 ·-- bs
  obtain ⟨e1,e2⟩:=I.bs b o e;refine ⟨upD b o e1,?_⟩;show upd H _ _ b=none
  rw [qz (lt e1)];exact e2
 ·-- bsz
  show X.base.objs.size<=(zqs s).heap.objs.size
  have:=I.sz;have:=I.ok.bsz;lia
 ·-- noex
  rcases (hf b hb).2.2.2.1 with z|z
  ·exact I.ok.noex b o e z
  ·exact absurd (Nat.lt_of_lt_of_le (Heap.lt_size e) (Nat.le_trans I.ok.bsz z)) (Nat.lt_irrefl _)
 ·-- exfs
  rcases List.mem_cons.mp (I.stkSub b hs) with z|z
  ·exact (hf b hb).2.1 z
  ·exact (hf b hb).2.2.1 z
 ·-- funs
  exact I.stack.of_keeps fun b o e _=>⟨o,upD b o e,rfl⟩
 ·-- frf
  show upd H _ _ b=none
  rw [qz (stk b hb).2];exact (stk b hb).1
 ·-- loc
  have hlt:¬ i<k:=fun hlt=>by
   unfold inner at h2;rw [List.getElem?_append_left (by simpa using hlt),List.getElem?_replicate,if_pos hlt] at h2;cases h2
  obtain ⟨j,rfl⟩:∃ j,i=k+j:=⟨i-k,by lia⟩
  unfold inner at h2;rw [List.getElem?_append_right (by simp),List.length_replicate,Nat.add_sub_cancel_left,List.getElem?_map] at h2;cases hj:caps[j]? with
  |none=>rw [hj] at h2;cases h2
  |some q =>
   rw [hj] at h2;obtain ⟨y,hy1,hy2,hy3⟩:=B.cap j q hj;have exy:y=x:=Option.some.inj (hy1.symm.trans h1);subst exy;have hv:σ[q]?=some (some v):=by
    have h2':(σ[q]?).join=some v:=Option.some.inj h2;cases hq:σ[q]? with
    |none=>rw [hq] at h2';cases h2'
    |some w'=>rw [hq] at h2';rw [show w'=some v from h2']
   obtain ⟨m,hnm,hl⟩:=I.loc;have fr:=B.frees _ (zeb hy3) rfl;obtain ⟨u,ru,lk⟩:=hl q y v hy2 hv (.inr fr);refine ⟨u,ru,.inr ⟨zg7 X.env hy3,?_⟩⟩;rcases lk with ⟨z,_⟩|⟨_,c,hc,ic⟩
   ·exfalso
    have z':X.env.scope.names.lookup y=some .local:=z;rcases fr with fr|fr
    ·rw [z'] at fr;cases fr
    ·rw [z'] at fr;cases fr
   ·exact ⟨c,hasL y c hy3 hc,ic.keeps up⟩
 ·-- cell
  obtain ⟨v,ic⟩:=I.cell x c (snd x c h);exact ⟨v,ic.keeps up⟩
 ·-- free
  show upd H _ _ (s.heap.objs.size+1)=none
  rw [qz (Nat.succ_ne_self _)];exact I.hok.fresh (Nat.le_succ _)
 ·-- freeC
  obtain ⟨v,o,e,_⟩:=I.cell x c (snd x c h);show upd H _ _ c=none
  rw [qz (lt e)];exact I.freeC x c (snd x c h)
 ·-- pin
  have hp':p∈X.pn++pins:=by
   have hp2:p∈(X.pn++pins)++[]:=hp;rw [List.append_nil] at hp2;exact hp2
  obtain ⟨e,n,ne,nf,d⟩:=I.pin p hp';refine ⟨up _ _ e,?_,ltC e,fun z=>?_,d⟩
  ·show upd H _ _ p.1=none
   rw [qz (lt e)];exact n
  ·rcases List.mem_cons.mp (I.stkSub p.1 z) with z|z
   ·exact ne z
   ·exact nf z
 ·-- hok
  refine I.hok.laid up (Nat.le_refl _) ?_;exact ⟨Nat.zero_le _,[],0,.nil,hk _ _ (Heap.get?_push_size _ rfl)⟩
 ·-- len
  unfold inner;rw [List.length_append,List.length_replicate,List.length_map];exact B.len.symm
theorem z0t {σ':St}{H':Hp}{s':Shared}{h':Heap}{pins':List (Addr×Obj)} (I:Inv X pins σ H s) (hf:∀ b∈fp,zwr X pins H b) (J:Inv (vg X N scope pins fp s H) pins' σ' H' s')
  (hs:Heap.SameBut (s.heap.objs.size+1) s'.heap h'):Inv X pins σ H' { s' with heap:=h' }:=by
 have freeD:H s.heap.objs.size=none:=I.hok.fresh (Nat.le_refl _);have lt:∀ {b o},s.heap.get? b=some o->b≠s.heap.objs.size:=fun e=>Nat.ne_of_lt (Heap.lt_size e);have ltC:∀ {b o},s.heap.get? b=some o->b≠s.heap.objs.size+1:=fun e=>Nat.ne_of_lt (Nat.lt_succ_of_lt (Heap.lt_size e));have upD:∀ b o,s.heap.get? b=some o->(zqs s).heap.get? b=some o:=fun b o e=>Heap.get?_push_of_some _ e;have U:Un (frs X.stack) fp (upd H s.heap.objs.size (.lst [])) H' (zqs s).heap s'.heap:=J.base;have freeC:H' (s.heap.objs.size+1)=none:=J.free;refine I.call' (s':={ s' with heap:=h' }) (ch:=fp) J.os ⟨fun b o e n hb hx=>?_,fun b o e n hb hx=>?_,fun b o e n hx=>?_,fun b o e hx=>?_,fun b xs e=>?_,fun b o u e=>?_,fun b ps e=>?_⟩ (fun b o e=>?_) J.bare fun b hb=>?_
 ·show h'.get? b=some o
  rw [hs.2 b (ltC e)];exact U.keep b o (upD b o e) (by rw [qz (lt e)];exact n) hb hx
 ·obtain ⟨sl,q⟩:=U.slot b o (upD b o e) (by rw [qz (lt e)];exact n) hb hx;exact ⟨sl,by show h'.get? b=_;rw [hs.2 b (ltC e)];exact q⟩
 ·exact U.free b o (upD b o e) (by rw [qz (lt e)];exact n) hx
 ·obtain ⟨o',q⟩:=U.there b o (upD b o e) hx;exact ⟨o',by show h'.get? b=_;rw [hs.2 b (ltC e)];exact q⟩
 ·exact U.tups b xs (by rw [qz (zj e freeD)];exact e)
 ·exact U.frzs b o u (by rw [qz (zj e freeD)];exact e)
 ·exact U.tbls b ps (by rw [qz (zj e freeD)];exact e)
 ·refine (J.hok b o e).stay (fun c v hc q=>?_) (fun _ q=>q) fun _ _ q=>q;have hne:c≠s.heap.objs.size+1:=by
   rcases hc with z|z
   ·rw [z];intro w';rw [w',freeC] at e;cases e
   ·intro w';rw [w',freeC] at z;cases z
  show h'.get? c=some v
  rw [hs.2 c hne];exact q
 ·obtain ⟨f0,f1,f2,f3,f4,f5⟩:=hf b hb;exact ⟨f3,f1,f4,f5⟩
end
section
variable {prog:Program}{w:World}{A:Around}{R:Result->Shared->Prop}{s:Shared}
theorem zwl {elt target iter:Expr}{ifs:List Expr}{scope:Scope}{pos:Pos}{it acc:Value}{env:Env} (J:Nat->Shared->Prop) (n:Nat) (h0:J n s)
  (turn:∀ n s,J n s->wpAny (model prog w) A (pyNext it) (fun r s1=>match r with
   |none=>R (.ok .next) s1
   |some v=>wpAny (model prog w) A (letOwnedTupleGo target it v) (fun _ s2=>wpAny (model prog w) A (assign target env v) (fun _ s3 =>
     wpAny (model prog w) A (forIn ifs true fun c r=>if r=true then do let ok <- isTrue c env (eval c env);pure (ForInStep.yield ok) else pure (ForInStep.yield r)) (fun ok s4 =>
      if ok=true then wpAny (model prog w) A (eval elt env) (fun x s5 =>
       wpAny (model prog w) A (call (.builtin "list.append") [acc,x]) (fun _ s6=>∃ m,m<n/\J m s6) (fun _ _=>False) s5) (fun _ _=>False) s4
      else ∃ m,m<n/\J m s4) (fun _ _=>False) s3) (fun _ _=>False) s2) (fun _ _=>False) s1) (fun _ _=>False) s) :
  codeAny (model prog w) A (.compLoop (.ListComp elt [⟨target,iter,ifs,0⟩] scope pos) 0 it acc env) R s:=by
 have no:∀ {e:Value} {s':Shared},False->notedBy (model prog w) A env (fun e s'=>R (.error e) s') e s':=fun h=>False.elim h;refine codeAny_loop rfl J (fun n s hJ=>?_) n h0;show wpAny (model prog w) A ((compTurn (.ListComp elt [⟨target,iter,ifs,0⟩] scope pos) 0 it acc env).onRaise (fun x=>do noteFrame x env;theTreesLotGoes x)) _ _ s
 refine wpAny_noted ?_;rw [compTurn_list];refine wpAny_bind (wpAny_standAt (wpAny_bind (wpAny_mono (turn n s hJ) (fun r s1 h1=>?_) fun _ _ h'=>no h')));cases r with
 |none=>exact wpAny_pure h1
 |some v =>
  refine wpAny_bind (wpAny_mono h1 (fun _ s2 h2=>?_) fun _ _ h'=>no h');refine wpAny_bind (wpAny_mono h2 (fun _ s3 h3=>wpAny_bind (wpAny_mono h3 (fun ok s4 h4=>?_) fun _ _ h'=>no h')) fun _ _ h'=>no h');cases ok with
  |false=>exact wpAny_pure ⟨rfl,h4⟩
  |true =>
   have h4':=h4;rw [if_pos rfl] at h4';exact wpAny_bind (wpAny_bind (wpAny_mono h4' (fun x s5 h5=>wpAny_bind (wpAny_mono h5 (fun _ s6 h6=>wpAny_pure (wpAny_pure ⟨rfl,h6⟩)) fun _ _ h'=>no h')) fun _ _ h'=>no h'))
end
inductive zth (X:Cx):List Expr->TT->Prop
 |none:zth X [] (fun _ H Q=>Q true H)
 |one {c:Expr} {t:TT}:PT X c t->zth X [c] t
noncomputable def z2c (D:Addr) (J:It) (g:TG) (ti:TT) (te:TE) (k:Nat) (caps:List Nat) (σ:St) (Q:VK) (H1:Hp):Prop :=
 ∃ W:Nat->Nat->List V->Hp->Prop,(∃ m,W 0 m [] (upd H1 D (.lst []))) /\
  ∀ i m ys H2,W i m ys H2->H2 D=some (.lst ys)/\((J.stop i H2/\Q (.ref D) H2)\/(J.go i H2/\ys.length<sizeLine/\∀ x H3,J.yld i H2 x H3 ->
   g x (inner k caps σ) H3 fun σ4 H4=>(σ4.length=(inner k caps σ).length/\σ4.drop k=(inner k caps σ).drop k) /\
    ti σ4 H4 fun b H5=>if b=true then te σ4 H5 fun y H6=>H6 D=some (.lst ys)/\∃ m',m'<m/\W (i+1) m' (ys++[y]) (upd H6 D (.lst (ys++[y]))) else ∃ m',m'<m/\W (i+1) m' ys H5))
noncomputable def zes (J:It) (g:TG) (ti:TT) (te:TE) (k:Nat) (caps:List Nat) (σ:St) (Q:VK) (H1:Hp):Prop:=∀ D,H1 D=none->z2c D J g ti te k caps σ Q H1
noncomputable def z0q (wi:TI) (g:TG) (ti:TT) (te:TE) (k:Nat) (caps:List Nat):TE:=fun σ H Q=>wi σ H fun J H1=>zes J g ti te k caps σ Q H1
section
variable {X:Cx}{N:List Str}{scope:Scope}{k:Nat}{caps:List Nat}{tg elt iter:Expr}{ifs:List Expr}{wi:TI}{g:TG}{ti:TT}{te:TE}{pos:Pos}
theorem zvv {σ σ4:St} (h1:σ4.length=(inner k caps σ).length) (h2:σ4.drop k=(inner k caps σ).drop k) (i:Nat) (v:V) (h:(inner k caps σ)[i]?=some (some v)):σ4[i]?=some (some v):=by
 have hlt:¬ i<k:=fun hlt=>by
  unfold inner at h;rw [List.getElem?_append_left (by simpa using hlt),List.getElem?_replicate,if_pos hlt] at h;cases h
 obtain ⟨j,rfl⟩:∃ j,i=k+j:=⟨i-k,by lia⟩
 have e1:(σ4.drop k)[j]?=σ4[k+j]?:=List.getElem?_drop;have e2:((inner k caps σ).drop k)[j]?=(inner k caps σ)[k+j]?:=List.getElem?_drop;rw [<- e1,h2,e2,h]
theorem zp8 {E:Value->Shared->Prop}{pins:List (Addr×Obj)}{σ:St}{H:Hp}{s:Shared}{it:Addr}{fp:List Addr}{tn:Nat->Heap->Prop}{J:It}{RR:Value->Addr->Result->Shared->Prop} (B:Block X N scope k caps) (hcalm:X.calm=true)
  (hg:∀ pins fp s H,∃ t,PG (vg X N scope pins fp s H) tg t/\t=g) (hi:∀ pins fp s H,∃ t,zth (vg X N scope pins fp s H) ifs t/\t=ti) (he:∀ pins fp s H,∃ t,PE (vg X N scope pins fp s H) elt t/\t=te)
  (I:Inv X pins σ H s) (T:Turn X.prog X.w X.K tg J fp it tn) (st:tn 0 s.heap) (hf:∀ b∈fp,zwr X pins H b) (Q:VK)
  (hw:z2c s.heap.objs.size J g ti te k caps σ Q H)
  (hRR:∀ s' H',(∃ m,s'.heap.Ns (s.heap.objs.size+1) m)->H' (s.heap.objs.size+1)=none->(∀ h',Heap.SameBut (s.heap.objs.size+1) s'.heap h'->Inv X pins σ H' { s' with heap:=h' })->Q (.ref s.heap.objs.size) H'->RR (.ref s.heap.objs.size) (s.heap.objs.size+1) (.ok .next) s') :
  wpAny (model X.prog X.w) X.A (newList []) (fun acc s3=>wpAny (model X.prog X.w) X.A (newFunctionEnv scope X.env.globals (zfg X.env.cells scope.names []) [] X.env.qual none .none (some X.env)) (fun cenv s4 =>
   codeAny (model X.prog X.w) X.A (.compStart (.ListComp elt [⟨tg,iter,ifs,0⟩] scope pos) 0 (.ref it) acc { cenv with scope:=relabel scope X.env }) (RR acc cenv.locals) s4) E s3) E s:=by
 obtain ⟨W,⟨m0,w0⟩,turn⟩:=hw;obtain ⟨tg',hg1,eg⟩:=hg pins fp s H;clear hg;subst eg;obtain ⟨ti',hi1,ei⟩:=hi pins fp s H;clear hi;subst ei;obtain ⟨te',he1,ee⟩:=he pins fp s H;clear he;subst ee;refine wpAny_newObj_type (wpAny_newFunctionEnv B.nocell (by intro y hy;simp at hy) (fun h₁ hns₁ hsb₁=>?_) B.kind);dsimp only at hns₁ hsb₁ ⊢;have szD:(zqs s).heap.objs.size=s.heap.objs.size+1:=Heap.size_push ..;have eC:(s.heap.push { cls:=.type "list",dict:=none,data:=.seq ([]:List Value).toArray }).objs.size=s.heap.objs.size+1:=szD;rw [eC] at hns₁ hsb₁ ⊢;have hk₁:∀ b o,(zqs s).heap.get? b=some o->h₁.get? b=some o:=fun b o e=>by
  have l:b≠s.heap.objs.size+1:=by
   have l1:=Heap.lt_size e;rw [szD] at l1;exact Nat.ne_of_lt l1
  exact hsb₁.extBut b o l (Heap.get?_push_of_some _ e)
 have st₁:tn 0 h₁:=T.keep 0 s.heap h₁ st fun b _ o e=>hk₁ b o (Heap.get?_push_of_some _ e);have ho:∀ b∈fp,∃ o,s.heap.get? b=some o:=fun b hb=>let ⟨o,e,_⟩:=T.obj 0 _ st b hb;⟨o,e⟩;have loop:∀ s1:Shared,s1={ s with heap:=h₁,toks:=s.toks+([]:List (Str×Value)).length } ->
   codeAny (model X.prog X.w) X.A (.compLoop (.ListComp elt [⟨tg,iter,ifs,0⟩] scope pos) 0 (.ref it) (.ref s.heap.objs.size) (vg X N scope pins fp s H).env) (RR (.ref s.heap.objs.size) (s.heap.objs.size+1)) s1:=by
  rintro s1 rfl;have I₁:=zwn (N:=N) (tk:=s.toks+([]:List (Str×Value)).length) B I hf ho hns₁ hk₁;have stat:∀ {H':Hp},(∀ b∈fp,H' b=none)->∀ b∈fp,zwr (vg X N scope pins fp s H) [] H' b:=fun hn b hb=>by
   obtain ⟨_,z⟩:=I₁.ok.exf b hb;refine ⟨hn b hb,(I₁.ok.exf b hb).1,I₁.ok.exfs b hb,.inl hb,fun x c e=>(I₁.ok.exf b hb).2 x c e,fun p hp=>?_⟩;have hp2:p∈(X.pn++pins)++[]:=hp;rw [List.append_nil] at hp2;exact (hf b hb).2.2.2.2.2 p hp2
  refine zwl (fun n s'=>∃ i ys H',Inv (vg X N scope pins fp s H) [] (inner k caps σ) H' s'/\tn i s'.heap/\(∀ b∈fp,H' b=none)/\W i n ys H') m0 ⟨0,[],_,I₁,st₁,fun b hb=>?_,w0⟩ ?_
  ·obtain ⟨o,e⟩:=ho b hb;rw [qz (Nat.ne_of_lt (Heap.lt_size e))];exact (hf b hb).1
  ·rintro n s2 ⟨i,ys,H2,I2,st2,fr2,w2⟩;obtain ⟨hD,alt⟩:=turn i n ys H2 w2;rcases alt with ⟨stop,q⟩|⟨go,hz,step⟩
   ·refine thn (T.done (vg X N scope pins fp s H) rfl rfl rfl hcalm i [] s2 _ H2 _ I2 (stat fr2) st2 stop) fun r s3 ⟨hr,I3⟩=>?_;subst hr;obtain ⟨m,hnm,_⟩:=id I3.loc;exact hRR s3 H2 ⟨m,hnm⟩ I3.free (fun h' hs=>z0t I hf I3 hs) q
   ·refine thn (T.item (vg X N scope pins fp s H) rfl rfl rfl hcalm i [] s2 _ H2 _ I2 (stat fr2) st2 go) fun r s3 ⟨u,hr,h3⟩=>?_;subst hr;refine thn h3 fun _ s4 ⟨x,H4,I4,r4,y4,st4,fr4⟩=>?_;have I4':=I4.pinned (stat fr4) (T.obj _ _ st4);refine thn (hg1 _ s4 _ H4 x u _ I4' r4 (step x H4 y4)) fun _ s5 ⟨σ5,H5,I5,⟨k1,k2⟩,q5⟩=>?_;have back:∀ {H7:Hp} {s7:Shared},Inv (vg X N scope pins fp s H) ([]++zpa fp s4.heap) σ5 H7 s7->Inv (vg X N scope pins fp s H) [] (inner k caps σ) H7 s7/\tn (i+1) s7.heap/\(∀ b∈fp,H7 b=none):=fun {H7 s7} I7=>by
     refine ⟨I7.unpinned.weak k1.symm (zvv k1 k2),T.keep _ _ _ st4 fun b hb o e=>(I7.pin (b,o) (List.mem_append_right _ (List.mem_append_right _ (zib hb e)))).1,fun b hb=>?_⟩;obtain ⟨o,e,d⟩:=T.obj _ _ st4 b hb;exact (I7.pin (b,o) (List.mem_append_right _ (List.mem_append_right _ (zib hb e)))).2.1
    have body:∀ (ok:Bool) (s6:Shared) (H6:Hp),Inv (vg X N scope pins fp s H) ([]++zpa fp s4.heap) σ5 H6 s6 ->
      (if ok=true then te' σ5 H6 fun y H6=>H6 s.heap.objs.size=some (.lst ys)/\∃ m',m'<n/\W (i+1) m' (ys++[y]) (upd H6 s.heap.objs.size (.lst (ys++[y]))) else ∃ m',m'<n/\W (i+1) m' ys H6) ->
      (if ok=true then wpAny (model X.prog X.w) X.A (eval elt (vg X N scope pins fp s H).env) (fun x s5 =>
       wpAny (model X.prog X.w) X.A (call (.builtin "list.append") [.ref s.heap.objs.size,x]) (fun _ s6=>∃ m,m<n/\∃ i ys H',Inv (vg X N scope pins fp s H) [] (inner k caps σ) H' s6/\tn i s6.heap/\(∀ b∈fp,H' b=none)/\W i m ys H') (fun _ _=>False) s5) (fun _ _=>False) s6
      else ∃ m,m<n/\∃ i ys H',Inv (vg X N scope pins fp s H) [] (inner k caps σ) H' s6/\tn i s6.heap/\(∀ b∈fp,H' b=none)/\W i m ys H'):=fun ok s6 H6 I6 q6=>by
     cases ok with
     |false =>
      rw [if_neg Bool.false_ne_true] at q6 ⊢;obtain ⟨m',hm,w6⟩:=q6;obtain ⟨b1,b2,b3⟩:=back I6;exact ⟨m',hm,i+1,ys,H6,b1,b2,b3,w6⟩
     |true =>
      rw [if_pos rfl] at q6 ⊢;refine thn (he1 _ s6 σ5 H6 _ I6 q6) fun y s7 ⟨yv,H7,I7,r7,hD7,m',hm,w7⟩=>?_;refine thn (zrp (X:=vg X N scope pins fp s H) _ s7 σ5 H7 (.ref s.heap.objs.size) [yv] (.ref s.heap.objs.size) [y] (fun v H8=>v=.non/\H8=upd H7 s.heap.objs.size (.lst (ys++[yv]))) I7 rfl (.cons r7 .nil) ⟨_,ys,yv,rfl,rfl,hD7,hz,rfl,rfl⟩) fun _ s8 ⟨_,H8,I8,_,_,e8⟩=>?_;subst e8;obtain ⟨b1,b2,b3⟩:=back I8;exact ⟨m',hm,i+1,_,_,b1,b2,b3,w7⟩
    cases hi1 with
    |none=>exact wpAny_tests_nil (body true s5 H5 I5 q5)
    |one hc=>exact wpAny_tests_one (thn (hc _ s5 σ5 H5 _ I5 q5) fun ok s6 ⟨H6,I6,q6⟩=>body ok s6 H6 I6 q6)
 exact codeAny_compStart_list (loop _ rfl) (T.self X.A 0 _ _ _ st₁ (loop _ rfl))
theorem zlb (B:Block X N scope k caps) (hcalm:X.calm=true) (hwi:PI X tg iter wi)
  (hg:∀ pins fp s H,∃ t,PG (vg X N scope pins fp s H) tg t/\t=g) (hi:∀ pins fp s H,∃ t,zth (vg X N scope pins fp s H) ifs t/\t=ti) (he:∀ pins fp s H,∃ t,PE (vg X N scope pins fp s H) elt t/\t=te)
  (hs:∀ x,foldedSetIterable iter X.env x=pure x:=by intro _;rfl):PE X (.ListComp elt [⟨tg,iter,ifs,0⟩] scope pos) (z0q wi g ti te k caps):=by
 intro pins s σ H Q I h;rw [eval_ListComp];have hcl:closureFor scope X.env=pure (zfg X.env.cells scope.names []):=zj1 fun n hn=>I.ok.has n (B.frees _ hn rfl);refine wpAny_comprehension_free (use:=none) rfl hs hcl B.kind B.locals (thn (hwi pins s σ H _ I h) fun xv s1 h1=>thn h1 fun itv s2 h2=>?_);obtain ⟨it,fp,tn,J,H2,e,I2,T,st2,f2,hw⟩:=h2;subst e;refine zp8 (RR:=fun acc C=>compPost (model X.prog X.w) X.A X.xe none (EP X pins σ Q) acc C) B hcalm hg hi he I2 T st2 f2 Q (hw _ (I2.hok.fresh (Nat.le_refl _))) fun s' H' hm _ hI q=>?_;obtain ⟨m,hnm⟩:=hm;exact ⟨m,hnm,fun h' hs'=>⟨.ref _,H',hI h' hs',rfl,q⟩⟩
theorem zmv {x:Str}{i:Nat}{px spos:Pos} (B:Block X N scope k caps) (hcalm:X.calm=true) (hwi:PI X tg iter wi)
  (hg:∀ pins fp s H,∃ t,PG (vg X N scope pins fp s H) tg t/\t=g) (hi:∀ pins fp s H,∃ t,zth (vg X N scope pins fp s H) ifs t/\t=ti) (he:∀ pins fp s H,∃ t,PE (vg X N scope pins fp s H) elt t/\t=te)
  (hN:X.N.Nodup) (hx:X.N[i]?=some x) (hl:X.env.scope.names.lookup x=some .local)
  (hsw:swapsWith (.ListComp elt [⟨tg,iter,ifs,0⟩] scope pos) (some (.Name x px)) spos.line X.env=pure true)
  (hs:∀ x,foldedSetIterable iter X.env x=pure x:=by intro _;rfl):PS X (.Assign [.Name x px] (.ListComp elt [⟨tg,iter,ifs,0⟩] scope pos) spos) (z6q (z0q wi g ti te k caps) (ztt i)):=by
 intro pins s σ H D I h;rw [exec_Assign_Name_used _ _ _ _ hsw];have hcl:closureFor scope X.env=pure (zfg X.env.cells scope.names []):=zj1 fun n hn=>I.ok.has n (B.frees _ hn rfl);refine wpAny_bind (wpAny_standAt (wpAny_bind ?_));show wpAny _ X.A (do let _ <- comprehension (.ListComp elt [⟨tg,iter,ifs,0⟩] scope pos) scope X.env _ (newList []) false (eval iter X.env) (some (assign (.Name x px) X.env))) _ _ s
 refine wpAny_bind (wpAny_mono (wpAny_comprehension_free (use:=some (assign (.Name x px) X.env)) (Q:=fun _ s'=>SP X pins D .next s') rfl hs hcl B.kind B.locals (thn (hwi pins s σ H _ I h) fun xv s1 h1=>thn h1 fun itv s2 h2=>?_)) (fun _ s' hq=>wpAny_pure (wpAny_pure hq)) fun _ _ e=>e);obtain ⟨it,fp,tn,J,H2,e,I2,T,st2,f2,hw⟩:=h2;subst e;refine zp8 (RR:=fun acc C=>compPost (model X.prog X.w) X.A X.xe (some (assign (.Name x px) X.env)) (fun _ s'=>SP X pins D .next s') acc C) B hcalm hg hi he I2 T st2 f2 (fun v H'=>D.nx (σ.set i (some v)) H') (hw _ (I2.hok.fresh (Nat.le_refl _))) fun s' H' hm hfC hI q=>?_;obtain ⟨m,hnm⟩:=hm;show wpAny _ X.A (assign (.Name x px) X.env (.ref s2.heap.objs.size)) _ _ s'
 have I3:Inv X pins σ H' s':=hI s'.heap ⟨rfl,fun _ _=>rfl⟩;refine wpAny_assign_Name ?_;have neL:X.env.locals≠s2.heap.objs.size+1:=Nat.ne_of_lt (Nat.lt_succ_of_lt I2.lt);refine zsk I3 hN hx (.inl hl) (v:=.ref s2.heap.objs.size) rfl (fun s4 I4 ⟨a,hs4,ha⟩=>?_) (.inr hl);have haL:a=X.env.locals\/(∃ v,s2.heap.IsCell a v):=ha.imp id fun e=>I2.cell x a e;have neC:s2.heap.objs.size+1≠a:=by
  rcases haL with z|⟨v,o,e,_⟩
  ·rw [z];exact Ne.symm neL
  ·exact Nat.ne_of_gt (Nat.lt_succ_of_lt (Heap.lt_size e))
 refine ⟨m,hnm.sameBut hs4 neC,fun h' hs'=>⟨_,H',?_,q⟩⟩
 -- the block's names are let go: nothing else changes
 refine I4.turned (t':=s4.toks) (it:=s2.heap.objs.size+1) (fun b o hb e=>(hs'.2 b hb).trans e) ?_ (Ne.symm neL) (.inr ?_) (fun y c e=>?_) fun p hp=>?_
 ·exact hfC
 ·exact Nat.le_trans I2.sz (Nat.le_succ _)
 ·obtain ⟨v,o,e,_⟩:=I2.cell y c e;exact Nat.ne_of_lt (Nat.lt_succ_of_lt (Heap.lt_size e))
 ·exact Nat.ne_of_lt (Nat.lt_succ_of_lt (Heap.lt_size (I2.pin p hp).1))
end
section
variable {X:Cx}{pins:List (Addr×Obj)}{σ:St}{H:Hp}{s:Shared}{h':Heap}
theorem Inv.turnedL {ch:List Addr}{T:Addr}{o:HO}{t':Nat} (I:Inv X pins σ H s) (hch:∀ b∈ch,zwr X pins H b)
  (kp:∀ b u,b∉ch->s.heap.get? b=some u->h'.get? b=some u) (hT:s.heap.objs.size<=T) (new:wk X.prog X.w (upd H T o) h' T o):Inv X pins σ (upd H T o) { s with heap:=h',toks:=t' }:=by
 have fT:H T=none:=I.hok.fresh hT;have ltT:∀ {b u},s.heap.get? b=some u->b≠T:=fun e=>Nat.ne_of_lt (Nat.lt_of_lt_of_le (Heap.lt_size e) hT);have noch:∀ b u,H b=some u->b∉ch:=fun b u e z=>by rw [(hch b z).1] at e;cases e
 refine I.step (g':=s.gens) (d':=s.drawn) (ch:=ch) (fun b hb=>?_) (fun b u _ _ hc e _=>kp b u hc e) (fun b u _ _ hc e _=>⟨u.slots,kp b u hc e⟩) (fun b u _ e n=>by rw [qz (ltT e)];exact n)
  (fun b u hc e=>⟨u,kp b u hc e⟩) (fun b xs e=>by rw [qz (zj e fT)];exact e) (fun b u v e=>by rw [qz (zj e fT)];exact e) (fun b ps e=>⟨#[],by rw [qz (zj e fT),e];simp⟩) (fun m hm=>?_) (fun b u e=>?_) I.bare
 ·obtain ⟨_,f1,_,f3,f4,f5⟩:=hch b hb;exact ⟨f3,f1,f4,f5⟩
 ·obtain ⟨u,es,ep,e,r⟩:=hm;exact ⟨u,es,ep,kp _ u (fun z=>(hch _ z).2.1 rfl) e,r⟩
 ·by_cases hb:b=T
  ·subst hb;rw [zb] at e;cases e
   exact new
  ·rw [qz hb] at e;refine (I.hok b u e).stay (fun c v hc q=>kp c v ?_ q) (fun c q=>by rw [qz (zj q fT)];exact q) fun c xs q=>by rw [qz (zj q fT)];exact q
   rcases hc with z|z
   ·rw [z];exact noch b u e
   ·exact noch c _ z
theorem Inv.turnedN {ch:List Addr}{t':Nat} (I:Inv X pins σ H s) (hch:∀ b∈ch,zwr X pins H b)
  (kp:∀ b u,b∉ch->s.heap.get? b=some u->h'.get? b=some u):Inv X pins σ H { s with heap:=h',toks:=t' }:=by
 have noch:∀ b u,H b=some u->b∉ch:=fun b u e z=>by rw [(hch b z).1] at e;cases e
 refine I.step (g':=s.gens) (d':=s.drawn) (ch:=ch) (fun b hb=>?_) (fun b u _ _ hc e _=>kp b u hc e) (fun b u _ _ hc e _=>⟨u.slots,kp b u hc e⟩) (fun _ _ _ _ n=>n)
  (fun b u hc e=>⟨u,kp b u hc e⟩) (fun _ _ e=>e) (fun _ _ _ e=>e) (fun b ps e=>⟨#[],by rw [e];simp⟩) (fun m hm=>?_) (fun b u e=>?_) I.bare
 ·obtain ⟨_,f1,_,f3,f4,f5⟩:=hch b hb;exact ⟨f3,f1,f4,f5⟩
 ·obtain ⟨u,es,ep,e,r⟩:=hm;exact ⟨u,es,ep,kp _ u (fun z=>(hch _ z).2.1 rfl) e,r⟩
 ·refine (I.hok b u e).stay (fun c v hc q=>kp c v ?_ q) (fun _ q=>q) fun _ _ q=>q;rcases hc with z|z
  ·rw [z];exact noch b u e
  ·exact noch c _ z
end
noncomputable def Itz (K:PySem.W.Frag) (a b:Addr):It :=
 ⟨fun i H=>∃ xs ys x y,SqL K H a xs/\SqL K H b ys/\xs[i]?=some x/\ys[i]?=some y,
  fun i H v H'=>∃ T x y,H T=none/\v=.ref T/\H'=upd H T (.tup [x,y])/\(∀ xs,SqL K H a xs->xs[i]?=some x)/\∀ ys,SqL K H b ys->ys[i]?=some y,
  fun i H=>∃ xs ys,SqL K H a xs/\SqL K H b ys/\(xs.length<=i\/ys.length<=i)⟩
theorem zxf {P:Program}{w:World}{H:Hp}{h:Heap}{T:Addr}{xs:List V}{us:List Value} (hz:xs.length<=sizeLine) (r:Vals xs us) (e:h.get? T=some { cls:=.type "tuple",data:=.seq us.toArray }):wk P w H h T (.tup xs) :=
 ⟨hz,us,r,⟨_,e,rfl,_,rfl⟩⟩
theorem zz7 {P:Program}{w:World}{K:PySem.W.Frag}{es:List Expr}{kk:Nat}{tp:Pos}{a b z TI TO i1 i2:Addr} (D:ZipApart z TI TO i1 i2 a b) :
  Turn P w K (.Tuple es kk tp) (Itz K a b) [z,TI,TO,i1,i2] z (fun i h=>IsZip h z TI TO .none/\IsPair h TI (.ref i1) (.ref i2)/\(∃ u v,IsPair h TO u v)/\h.IsListIter i1 a i/\h.IsListIter i2 b i) where
 mem:=by simp
 obj:=fun i h st c hc=>by
  obtain ⟨h1,h2,⟨u,v,h3⟩,⟨o4,e4,c4,d4⟩,⟨o5,e5,c5,d5⟩⟩:=st;simp only [List.mem_cons,List.not_mem_nil,or_false] at hc;rcases hc with rfl|rfl|rfl|rfl|rfl
  ·exact ⟨_,h1,fun v z=>by cases z⟩
  ·exact ⟨_,h2,fun v z=>by cases z⟩
  ·exact ⟨_,h3,fun v z=>by cases z⟩
  ·exact ⟨o4,e4,fun v z=>by rw [d4] at z;cases z⟩
  ·exact ⟨o5,e5,fun v z=>by rw [d5] at z;cases z⟩
 keep:=fun i h h' st kp=>by
  obtain ⟨h1,h2,⟨u,v,h3⟩,h4,h5⟩:=st;exact ⟨kp z (by simp) _ h1,kp TI (by simp) _ h2,⟨u,v,kp TO (by simp) _ h3⟩,h4.at fun o e=>kp i1 (by simp) o e,h5.at fun o e=>kp i2 (by simp) o e⟩
 item:=by
  intro X hP hw hK hc i pins s σ H E I hf st hg;subst hP hw hK;obtain ⟨h1,h2,⟨u,v,h3⟩,h4,h5⟩:=st;obtain ⟨xs,ys,x,y,q1,q2,ex,ey⟩:=hg;obtain ⟨its,rv,p,hz⟩:=I.list q1;obtain ⟨jts,rw',p',hz'⟩:=I.list q2;obtain ⟨ux,eu,ru⟩:=rv.get ex;obtain ⟨uy,ev,rv'⟩:=rw'.get ey;refine wpAny_pyNext_zip_item D h1 h2 h3 h4 h5 p.isList p'.isList (x:=ux) (y:=uy) (by simpa using eu) (by simpa using ev) fun g a1 a2 a3 a4 a5 a6 kp=>?_;refine ⟨_,rfl,wpAny_letOwnedTupleGo_zip a1 fun g' b1 b2=>?_⟩;have up:∀ c o,c∉[z,TO,i1,i2]->s.heap.get? c=some o->g'.get? c=some o:=fun c o hcn e=>by
   simp only [List.mem_cons,List.not_mem_nil,or_false,not_or] at hcn;exact (b2.2 c hcn.1).trans (kp c o hcn.1 hcn.2.1 hcn.2.2.1 hcn.2.2.2 e)
  have ltz:z<s.heap.objs.size:=Heap.lt_size h1;have fT:H s.heap.objs.size=none:=I.hok.fresh (Nat.le_refl _);have newT:g'.get? s.heap.objs.size=some { cls:=.type "tuple",data:=.seq #[ux,uy] }:=(b2.2 _ (Nat.ne_of_gt ltz)).trans a5;have sub:∀ c∈[z,TO,i1,i2],c∈[z,TI,TO,i1,i2]:=fun c hc=>by
   simp only [List.mem_cons,List.not_mem_nil,or_false] at hc ⊢;rcases hc with rfl|rfl|rfl|rfl<;>simp
  refine ⟨.ref s.heap.objs.size,upd H s.heap.objs.size (.tup [x,y]),I.turnedL (t':=s.toks) (ch:=[z,TO,i1,i2]) (fun c hc=>hf c (sub c hc)) up (Nat.le_refl _) (zxf (us:=[ux,uy]) (by simp [sizeLine_eq]) (.cons ru (.cons rv' .nil)) newT),rfl,?_,?_,fun c hc=>?_⟩
  ·exact ⟨_,x,y,fT,rfl,rfl,fun zs hq=>by rw [I.list_inj hq q1];exact ex,fun zs hq=>by rw [I.list_inj hq q2];exact ey⟩
  ·exact ⟨b1,(b2.2 _ D.TIz).trans (kp _ _ D.TIz D.TITO D.TIi1 D.TIi2 h2),⟨_,_,(b2.2 _ D.TOz).trans a2⟩,a3.at fun o e=>(b2.2 _ D.i1z).trans e,a4.at fun o e=>(b2.2 _ D.i2z).trans e⟩
  ·obtain ⟨f0,_⟩:=hf c hc;obtain ⟨o,e,_⟩:=(show ∃ o,s.heap.get? c=some o/\True from by
    simp only [List.mem_cons,List.not_mem_nil,or_false] at hc
    obtain ⟨o4,e4,_⟩:=h4
    obtain ⟨o5,e5,_⟩:=h5
    rcases hc with rfl|rfl|rfl|rfl|rfl
    ·exact ⟨_,h1,trivial⟩
    ·exact ⟨_,h2,trivial⟩
    ·exact ⟨_,h3,trivial⟩
    ·exact ⟨_,e4,trivial⟩
    ·exact ⟨_,e5,trivial⟩)
   rw [qz (Nat.ne_of_lt (Heap.lt_size e))];exact f0
 done:=by
  intro X hP hw hK hc i pins s σ H E I hf st hg;subst hP hw hK;obtain ⟨h1,h2,⟨u,v,h3⟩,h4,h5⟩:=st;obtain ⟨xs,ys,q1,q2,hend⟩:=hg;obtain ⟨its,rv,p,hz⟩:=I.list q1;obtain ⟨jts,rw',p',hz'⟩:=I.list q2;have l1:=rv.length;have l2:=rw'.length;refine wpAny_pyNext_zip_end (I.ok.hd hc) D h1 h2 h3 h4 h5 p.isList p'.isList ?_ fun g kp=>⟨rfl,?_⟩
  ·rcases hend with z|z
   ·left;simp;lia
   ·right;simp;lia
  ·refine I.turnedN (t':=s.toks) (ch:=[z,TO,i1,i2]) (fun c hc=>hf c ?_) fun c o hcn e=>?_
   ·simp only [List.mem_cons,List.not_mem_nil,or_false] at hc ⊢;rcases hc with rfl|rfl|rfl|rfl<;>simp
   ·simp only [List.mem_cons,List.not_mem_nil,or_false,not_or] at hcn;exact kp c o hcn.1 hcn.2.1 hcn.2.2.1 hcn.2.2.2 e
 self:=fun _ _ _ _ _ st h=>wpAny_pyIter_zip st.1 h
noncomputable def z9x (K:PySem.W.Frag) (ta:TA):TI:=fun σ H R=>ta σ H fun vs H1=>∃ a b,vs=[.ref a,.ref b]/\(∃ xs,SqL K H1 a xs)/\(∃ ys,SqL K H1 b ys)/\R (Itz K a b) H1
theorem zzm {X:Cx}{es:List Expr}{kk:Nat}{tp:Pos}{e f:Expr}{ta:TA}{p pos:Pos} (hg:Gl X "zip") (hm:X.mg "zip"=none) (hv:bootBuiltins "zip"=some (.type "zip")) (ha:PA X [e,f] ta)
  (hs:starEach [e,f] X.env=[(false,eval e X.env),(false,eval f X.env)]:=by rfl) (hs2:starEach [f] X.env=[(false,eval f X.env)]:=by rfl) :
  PI X (.Tuple es kk tp) (.Call (.Name "zip" p) [e,f] [] pos) (z9x X.K ta):=by
 intro pins s σ H R I h;refine Call_ (ziy I hg hm hv (PyProof.Rows.callWith_type1 (thn (ha pos pins s σ H _ I h) fun us s1 ⟨vs,H1,I1,r1,q1⟩=>?_) (by rw [hs,hs2]) (by rw [hs2];rfl)));obtain ⟨a,b,e1,⟨xs,hq⟩,⟨ys,hq'⟩,q⟩:=q1;subst e1;cases r1 with
 |cons r rr =>
  cases rr with
  |cons r' rr =>
   cases rr
   cases r
   cases r'
   obtain ⟨its,rv,pl,hz⟩:=I1.list hq;obtain ⟨jts,rw',pl',hz'⟩:=I1.list hq';obtain ⟨oa,ea,_⟩:=pl.isList;obtain ⟨ob,eb,_⟩:=pl'.isList;have la:@LT.lt Nat _ a s1.heap.objs.size:=Heap.lt_size ea;have lb:@LT.lt Nat _ b s1.heap.objs.size:=Heap.lt_size eb;refine call_zip_2 pl.isList pl'.isList fun g a1 a2 a3 a4 a5 a6 kp=>?_;have D:ZipApart (s1.heap.objs.size+4) (s1.heap.objs.size+2) (s1.heap.objs.size+3) s1.heap.objs.size (s1.heap.objs.size+1) a b:=by
    constructor<;>(apply show ∀ {x y:Nat},x≠y->x≠y from fun h=>h)<;>lia
   refine wpAny_pyIter_zip a1 ?_;have I2:Inv X pins σ H1 { s1 with heap:=g }:=I1.kept (t':=s1.toks) kp;refine ⟨_,_,_,_,H1,rfl,I2,zz7 D,⟨a1,a2,⟨_,_,a3⟩,a4,a5⟩,fun c hc=>?_,q⟩;have lc:s1.heap.objs.size<=c:=by
    simp only [List.mem_cons,List.not_mem_nil,or_false] at hc;rcases hc with rfl|rfl|rfl|rfl|rfl<;>lia
   exact I1.fpOk lc (I1.hok.fresh lc)
noncomputable def Ite (K:PySem.W.Frag) (a:Addr):It :=
 ⟨fun i H=>∃ xs x,SqL K H a xs/\xs[i]?=some x,
  fun i H v H'=>∃ T x,H T=none/\v=.ref T/\H'=upd H T (.tup [.int i,x])/\∀ xs,SqL K H a xs->xs[i]?=some x,
  fun i H=>∃ xs,SqL K H a xs/\xs.length<=i⟩
theorem zyt {P:Program}{w:World}{K:PySem.W.Frag}{es:List Expr}{kk:Nat}{tp:Pos}{a e it:Addr} (hei:e≠it) (hae:a≠e) (hai:a≠it) :
  Turn P w K (.Tuple es kk tp) (Ite K a) [e,it] e (fun i h=>(∃ old,IsEnum h e it i old)/\h.IsListIter it a i) where
 mem:=by simp
 obj:=fun i h st c hc=>by
  obtain ⟨⟨old,h1⟩,⟨o4,e4,c4,d4⟩⟩:=st;simp only [List.mem_cons,List.not_mem_nil,or_false] at hc;rcases hc with rfl|rfl
  ·exact ⟨_,h1,fun v z=>by cases z⟩
  ·exact ⟨o4,e4,fun v z=>by rw [d4] at z;cases z⟩
 keep:=fun i h h' st kp=>by
  obtain ⟨⟨old,h1⟩,h4⟩:=st;exact ⟨⟨old,kp e (by simp) _ h1⟩,h4.at fun o q=>kp it (by simp) o q⟩
 item:=by
  intro X hP hw hK hc i pins s σ H E I hf st hg;subst hP hw hK;obtain ⟨⟨old,h1⟩,h4⟩:=st;obtain ⟨xs,x,q1,ex⟩:=hg;obtain ⟨its,rv,p,hz⟩:=I.list q1;obtain ⟨ux,eu,ru⟩:=rv.get ex;refine wpAny_pyNext_enum_item h1 h4 p.isList (x:=ux) (by simpa using eu) hei fun g a1 a3 a5 a6 kp=>?_;refine ⟨_,rfl,wpAny_letOwnedTupleGo_enum a1 fun g' b1 b2=>?_⟩;have up:∀ c o,c∉[e,it]->s.heap.get? c=some o->g'.get? c=some o:=fun c o hcn q=>by
   simp only [List.mem_cons,List.not_mem_nil,or_false,not_or] at hcn;exact (b2.2 c hcn.1).trans (kp c o hcn.1 hcn.2 q)
  have lte:e<s.heap.objs.size:=Heap.lt_size h1;have fT:H s.heap.objs.size=none:=I.hok.fresh (Nat.le_refl _);have newT:g'.get? s.heap.objs.size=some { cls:=.type "tuple",data:=.seq #[.int i s.toks,ux] }:=(b2.2 _ (Nat.ne_of_gt lte)).trans a5;refine ⟨.ref s.heap.objs.size,upd H s.heap.objs.size (.tup [.int i,x]),I.turnedL (t':=s.toks+1) (ch:=[e,it]) hf up (Nat.le_refl _) (zxf (us:=[.int i s.toks,ux]) (by simp [sizeLine_eq]) (.cons ⟨_,rfl⟩ (.cons ru .nil)) newT),rfl,?_,?_,fun c hc=>?_⟩
  ·exact ⟨_,x,fT,rfl,rfl,fun zs hq=>by rw [I.list_inj hq q1];exact ex⟩
  ·exact ⟨⟨_,by simpa using b1⟩,a3.at fun o q=>(b2.2 _ (Ne.symm hei)).trans q⟩
  ·obtain ⟨f0,_⟩:=hf c hc;have lc:c<s.heap.objs.size:=by
    simp only [List.mem_cons,List.not_mem_nil,or_false] at hc;obtain ⟨o4,e4,_⟩:=h4;rcases hc with rfl|rfl
    ·exact lte
    ·exact Heap.lt_size e4
   rw [qz (Nat.ne_of_lt lc)];exact f0
 done:=by
  intro X hP hw hK hc i pins s σ H E I hf st hg;subst hP hw hK;obtain ⟨⟨old,h1⟩,h4⟩:=st;obtain ⟨xs,q1,hend⟩:=hg;obtain ⟨its,rv,p,hz⟩:=I.list q1;have l1:=rv.length;refine wpAny_pyNext_enum_end (I.ok.hd hc) h1 h4 p.isList (by simp;lia) fun g kp=>⟨rfl,?_⟩
  refine I.turnedN (t':=s.toks) (ch:=[e,it]) hf fun c o hcn q=>?_;simp only [List.mem_cons,List.not_mem_nil,or_false,not_or] at hcn;exact kp c o hcn.2 q
 self:=fun _ _ _ _ _ st h=>let ⟨⟨_,e1⟩,_⟩:=st;wpAny_pyIter_enum e1 h
noncomputable def z4k (K:PySem.W.Frag) (ta:TA):TI:=fun σ H R=>ta σ H fun vs H1=>∃ a,vs=[.ref a]/\(∃ xs,SqL K H1 a xs)/\R (Ite K a) H1
theorem zjv {X:Cx}{es:List Expr}{kk:Nat}{tp:Pos}{e:Expr}{ta:TA}{p pos:Pos} (hg:Gl X "enumerate") (hm:X.mg "enumerate"=none) (hv:bootBuiltins "enumerate"=some (.type "enumerate")) (ha:PA X [e] ta)
  (hs:starEach [e] X.env=[(false,eval e X.env)]:=by rfl):PI X (.Tuple es kk tp) (.Call (.Name "enumerate" p) [e] [] pos) (z4k X.K ta):=by
 intro pins s σ H R I h;refine Call_ (ziy I hg hm hv (PyProof.Rows.callWith_type1 (thn (ha pos pins s σ H _ I h) fun us s1 ⟨vs,H1,I1,r1,q1⟩=>?_) hs rfl));obtain ⟨a,e1,⟨xs,hq⟩,q⟩:=q1;subst e1;cases r1 with
 |cons r rr =>
  cases rr
  cases r
  obtain ⟨its,rv,pl,hz⟩:=I1.list hq;obtain ⟨oa,ea,_⟩:=pl.isList;have la:@LT.lt Nat _ a s1.heap.objs.size:=Heap.lt_size ea;refine call_enumerate_list pl.isList fun g a1 a4 a6 kp=>?_;refine wpAny_pyIter_enum a1 ?_;have I2:Inv X pins σ H1 { s1 with heap:=g }:=I1.kept (t':=s1.toks) kp;refine ⟨_,_,_,_,H1,rfl,I2,zyt (a:=a) (show @Ne Nat _ _ by lia) (show @Ne Nat _ _ by lia) (show @Ne Nat _ _ by lia),⟨⟨_,a1⟩,a4⟩,fun c hc=>?_,q⟩;have lc:s1.heap.objs.size<=c:=by
   simp only [List.mem_cons,List.not_mem_nil,or_false] at hc;rcases hc with rfl|rfl<;>lia
  exact I1.fpOk lc (I1.hok.fresh lc)
structure Ov {α:Type} (J:It) (l:List α) (kp:Hp->Prop) (rep:α->V->Hp->Hp->Prop):Prop where
 go:∀ (i:Nat) H,kp H->i<l.length->J.go i H
 stop:∀ (i:Nat) H,kp H->l.length<=i->J.stop i H
 yld:∀ (i:Nat) H x H' y,kp H->l[i]?=some y->J.yld i H x H'->rep y x H H'
theorem zac {K:PySem.W.Frag}{a:Addr}{xs:List V}:Ov (Itl K a) xs (fun H=>SqL K H a xs) (fun y x H H'=>x=y/\H'=H) where
 go:=fun i H h hi=>⟨xs,xs[i],h,by simp [hi]⟩
 stop:=fun i H h hi=>⟨xs,h,hi⟩
 yld:=fun i H x H' y h hy ⟨e,q⟩=>⟨Option.some.inj ((q xs h).symm.trans hy),e⟩
theorem zj2 {lo:Int}{n:Nat}:Ov (Itr lo n) (List.range n) (fun _=>True) (fun y x H H'=>x=.int (lo+(y:Nat))/\H'=H) where
 go:=fun i H _ hi=>by rw [List.length_range] at hi;exact hi
 stop:=fun i H _ hi=>by rw [List.length_range] at hi;exact hi
 yld:=fun i H x H' y _ hy ⟨e,q⟩=>by
  obtain ⟨h1,h2⟩:=List.getElem?_eq_some_iff.mp hy;rw [List.getElem_range] at h2;subst h2;exact ⟨q,e⟩
theorem zxz {K:PySem.W.Frag}{a b:Addr}{xs ys:List V}:Ov (Itz K a b) (xs.zip ys) (fun H=>SqL K H a xs/\SqL K H b ys) (fun y x H H'=>∃ T,H T=none/\x=.ref T/\H'=upd H T (.tup [y.1,y.2])) where
 go:=fun i H h hi=>by
  rw [List.length_zip] at hi;exact ⟨xs,ys,xs[i]'(by lia),ys[i]'(by lia),h.1,h.2,by simp,by simp⟩
 stop:=fun i H h hi=>by
  rw [List.length_zip] at hi;exact ⟨xs,ys,h.1,h.2,by lia⟩
 yld:=fun i H x H' y h hy ⟨T,u,v,f,e1,e2,q1,q2⟩=>by
  have w1:=q1 xs h.1;have w2:=q2 ys h.2;rw [List.getElem?_zip_eq_some] at hy;rw [hy.1] at w1;rw [hy.2] at w2;refine ⟨T,f,e1,?_⟩;rw [e2,<- Option.some.inj w1,<- Option.some.inj w2]
theorem zra {K:PySem.W.Frag}{a:Addr}{xs:List V}:Ov (Ite K a) xs.zipIdx (fun H=>SqL K H a xs) (fun y x H H'=>∃ T,H T=none/\x=.ref T/\H'=upd H T (.tup [.int (y.2:Nat),y.1])) where
 go:=fun i H h hi=>by
  rw [List.length_zipIdx] at hi;exact ⟨xs,xs[i]'hi,h,by simp⟩
 stop:=fun i H h hi=>by
  rw [List.length_zipIdx] at hi;exact ⟨xs,h,hi⟩
 yld:=fun i H x H' y h hy ⟨T,u,f,e1,e2,q1⟩=>by
  have w1:=q1 xs h;rw [List.getElem?_zipIdx,w1] at hy;have e:(u,0+i)=y:=Option.some.inj hy;subst e;refine ⟨T,f,e1,?_⟩;rw [e2];simp
theorem z6z {α:Type}{J:It}{l:List α}{kp:Hp->Prop}{rep:α->V->Hp->Hp->Prop} (O:Ov J l kp rep) {g:TG}{tb:TS}{D:Ends}{σ:St}{H:Hp} (Pv:Nat->St->Hp->Prop) (h0:Pv 0 σ H) (hk:∀ i σ H,i<=l.length->Pv i σ H->kp H)
  (hs:∀ i y x σ H H',l[i]?=some y->Pv i σ H->rep y x H H'->g x σ H' fun σ2 H2=>tb { D with nx:=Pv (i+1),ct:=Pv (i+1),bk:=D.nx } σ2 H2) (hd:∀ σ H,Pv l.length σ H->D.nx σ H) :
  ∃ W:Nat->Nat->St->Hp->Prop,(∃ m,W 0 m σ H)/\∀ i m σ H,W i m σ H ->
   (J.stop i H/\D.nx σ H)\/(J.go i H/\∃ N:St->Hp->Prop,(∀ σ' H',N σ' H'->∃ m',m'<m/\W (i+1) m' σ' H')/\∀ x H',J.yld i H x H'->g x σ H' fun σ2 H2=>tb { D with nx:=N,ct:=N,bk:=D.nx } σ2 H2):=by
 refine ⟨fun i m σ H=>m=l.length-i/\i<=l.length/\Pv i σ H,⟨l.length,by simp,Nat.zero_le _,h0⟩,?_⟩;rintro i m σ H ⟨rfl,hi,p⟩;by_cases hlt:i<l.length
 ·refine .inr ⟨O.go i H (hk i σ H hi p) hlt,Pv (i+1),fun σ' H' p'=>⟨l.length-(i+1),by lia,rfl,hlt,p'⟩,fun x H' y=>?_⟩;have e:l[i]?=some l[i]:=by simp [hlt]
  exact hs i _ x σ H H' e p (O.yld i H x H' _ (hk i σ H hi p) e y)
 ·have e:i=l.length:=by lia
  subst e;exact .inl ⟨O.stop _ H (hk _ σ H hi p) (Nat.le_refl _),hd σ H p⟩
theorem Same.upd_new {H:Hp}{a:Addr}{o:HO} (h:H a=none):Same H (upd H a o):=fun b u e=>by rw [qz (zj e h)];exact e
theorem take_snoc {α:Type}{l:List α}{i:Nat}{y:α} (h:l[i]?=some y):l.take (i+1)=l.take i++[y]:=by
 rw [List.take_add_one,h];rfl
theorem Paired.snoc {α β:Type}{F:α->β->Prop}:∀ {l₁:List α}{l₂:List β}{a:α}{b:β},Paired F l₁ l₂->F a b->Paired F (l₁++[a]) (l₂++[b])
 |_,_,_,_,.nil,h=>.cons h .nil
 |_,_,_,_,.cons r t,h=>.cons r (Paired.snoc t h)
theorem z1a {α:Type}{J:It}{l:List α}{kp:Hp->Prop}{rep:α->V->Hp->Hp->Prop} (O:Ov J l kp rep) {g:TG}{ti:TT}{te:TE}{k:Nat}{caps:List Nat}{σ:St}{H1:Hp}{Q:VK}
  (p:α->Bool) (Rv:Addr->α->V->Hp->Prop) (mono:∀ D y v H H',(∀ b o,b≠D->H b=some o->H' b=some o)->Rv D y v H->Rv D y v H') (hk:∀ H,Same H1 H->kp H) (hl:l.length<=sizeLine)
  (turn:∀ D (i:Nat) y x H3 H4 (R:V->Hp->Prop) (R':Hp->Prop),l[i]?=some y->Same H1 H3->(∃ ys,H3 D=some (.lst ys))->rep y x H3 H4->(p y=true->∀ v H7,Same H3 H7->Rv D y v H7->R v H7)->(p y=false->∀ H7,Same H3 H7->R' H7) ->
   g x (inner k caps σ) H4 fun σ4 H5=>(σ4.length=(inner k caps σ).length/\σ4.drop k=(inner k caps σ).drop k)/\ti σ4 H5 fun b H6=>if b=true then te σ4 H6 R else R' H6)
  (fin:∀ D H' ys,H1 D=none->Same H1 H'->H' D=some (.lst ys)->Paired (fun y v=>Rv D y v H') (l.filter p) ys->Q (.ref D) H') :
  zes J g ti te k caps σ Q H1:=by
 intro D hD;refine ⟨fun i m ys H=>m=l.length-i/\i<=l.length/\Same H1 H/\H D=some (.lst ys)/\Paired (fun y v=>Rv D y v H) ((l.take i).filter p) ys/\ys.length<=i,⟨l.length,by simp,Nat.zero_le _,Same.upd_new hD,zb,.nil,Nat.le_refl _⟩,?_⟩;rintro i m ys H2 ⟨rfl,hi,s2,d2,pr,hy⟩;refine ⟨d2,?_⟩;by_cases hlt:i<l.length
 ·refine .inr ⟨O.go i H2 (hk _ s2) hlt,by lia,fun x H3 y3=>?_⟩;have e:l[i]?=some l[i]:=by simp [hlt]
  have tk:=take_snoc e;refine turn D i _ x H2 H3 _ _ e s2 ⟨ys,d2⟩ (O.yld i H2 x H3 _ (hk _ s2) e y3) (fun hp v H7 s7 rv=>?_) fun hp H7 s7=>?_
  ·refine ⟨s7 _ _ d2,l.length-(i+1),by lia,rfl,hlt,?_,zb,?_,?_⟩
   ·intro b u eb;rw [qz (zj eb hD)];exact s7 _ _ (s2 _ _ eb)
   ·rw [tk,List.filter_append];have ef:List.filter p [l[i]]=[l[i]]:=by simp [hp]
    rw [ef];have up:∀ b o,b≠D->H7 b=some o->upd H7 D (.lst (ys++[v])) b=some o:=fun b o hb q=>by rw [qz hb];exact q
    exact Paired.snoc (Paired.mapP pr fun y u r=>mono D y u _ _ (fun b o hb q=>up b o hb (s7 b o q)) r) (mono D _ _ _ _ up rv)
   ·rw [List.length_append,List.length_singleton];lia
  ·refine ⟨l.length-(i+1),by lia,rfl,hlt,s2.trans s7,s7 _ _ d2,?_,by lia⟩;rw [tk,List.filter_append];have ef:List.filter p [l[i]]=[]:=by simp [hp]
   rw [ef,List.append_nil];exact Paired.mapP pr fun y v r=>mono D y v _ _ (fun b o _ q=>s7 b o q) r
 ·have e:i=l.length:=by lia
  subst e;refine .inl ⟨O.stop _ H2 (hk _ s2) (Nat.le_refl _),fin D H2 ys hD s2 d2 ?_⟩;rw [List.take_length] at pr;exact pr
theorem zpr {α β:Type}{f:α->β}:∀ {l:List α}{ys:List β},Paired (fun y v=>v=f y) l ys->ys=l.map f
 |_,_,.nil=>rfl
 |_,_,.cons r t=>by rw [List.map_cons,r,zpr t]
theorem zsp {α:Type}{J:It}{l:List α}{kp:Hp->Prop}{rep:α->V->Hp->Hp->Prop} (O:Ov J l kp rep) {g:TG}{ti:TT}{te:TE}{k:Nat}{caps:List Nat}{σ:St}{H1:Hp}{Q:VK}
  (p:α->Bool) (f:α->V) (hk:∀ H,Same H1 H->kp H) (hl:l.length<=sizeLine)
  (turn:∀ (i:Nat) y x H3 H4 (R:V->Hp->Prop) (R':Hp->Prop),l[i]?=some y->Same H1 H3->rep y x H3 H4->(p y=true->∀ H7,Same H3 H7->R (f y) H7)->(p y=false->∀ H7,Same H3 H7->R' H7) ->
   g x (inner k caps σ) H4 fun σ4 H5=>(σ4.length=(inner k caps σ).length/\σ4.drop k=(inner k caps σ).drop k)/\ti σ4 H5 fun b H6=>if b=true then te σ4 H6 R else R' H6)
  (fin:∀ D H',H1 D=none->Same H1 H'->H' D=some (.lst ((l.filter p).map f))->Q (.ref D) H') :
  zes J g ti te k caps σ Q H1 :=
 z1a O p (fun _ y v _=>v=f y) (fun _ _ _ _ _ _ r=>r) hk hl (fun _ i y x H3 H4 R R' e s _ r h1 h2=>turn i y x H3 H4 R R' e s r (fun hp H7 s7=>h1 hp _ H7 s7 rfl) h2)
  fun D H' ys hD s d pr=>fin D H' hD s (by rw [d,zpr pr])
section
variable {X:Cx}
theorem z5f {bs:List Bool}{its:List Value} (r:Vals (bs.map V.bl) its) {i:Nat}{v:Value} (h:its.toArray[i]?=some v):v=.bool (bs.getD i true):=by
 have h':its[i]?=some v:=by simpa using h
 have hl:=r.length;rw [List.length_map] at hl;have hi:i<its.length:=(List.getElem?_eq_some_iff.mp h').1;have hb:(bs.map V.bl)[i]?=some (.bl (bs.getD i true)):=by
  rw [List.getElem?_map,List.getD_eq_getElem?_getD];have:i<bs.length:=by lia
  simp [this]
 obtain ⟨u,e,ru⟩:=r.get hb;rw [h'] at e;cases e
 exact ru
theorem all_range (bs:List Bool):∀ n,n=bs.length->(List.range n).all (fun i=>bs.getD i true)=bs.all id:=by
 intro n hn;subst hn;rw [Bool.eq_iff_iff,List.all_eq_true,List.all_eq_true];constructor
 ·intro h x hx;obtain ⟨i,hi,rfl⟩:=List.mem_iff_getElem.mp hx;have:=h i (List.mem_range.mpr hi);rw [List.getD_eq_getElem?_getD] at this;simpa [hi] using this
 ·intro h i hi;have hi':=List.mem_range.mp hi;rw [List.getD_eq_getElem?_getD];have:=h bs[i] (List.getElem_mem hi');simpa [hi'] using this
theorem any_range (bs:List Bool):∀ n,n=bs.length->(List.range n).any (fun i=>bs.getD i true)=bs.any id:=by
 intro n hn;subst hn;rw [Bool.eq_iff_iff,List.any_eq_true,List.any_eq_true];constructor
 ·rintro ⟨i,hi,h⟩;have hi':=List.mem_range.mp hi;rw [List.getD_eq_getElem?_getD] at h;exact ⟨bs[i],List.getElem_mem hi',by simpa [hi'] using h⟩
 ·rintro ⟨x,hx,h⟩;obtain ⟨i,hi,rfl⟩:=List.mem_iff_getElem.mp hx;refine ⟨i,List.mem_range.mpr hi,?_⟩;rw [List.getD_eq_getElem?_getD];simpa [hi] using h
theorem z0r (hc:X.calm=true):zca X (.builtin "all") (fun xs H Q=>∃ (p:Addr) (bs:List Bool),xs=[.ref p]/\SqL X.K H p (bs.map V.bl)/\Q (.bl (bs.all id)) H):=by
 intro pins s σ H xs us Q I r h;obtain ⟨p,bs,rfl,hq,q⟩:=h;obtain ⟨u,rfl,ru⟩:=vals1 r;cases ru
 obtain ⟨its,rv,pl,hz⟩:=I.list hq;obtain ⟨o,e,_⟩:=pl.isList;have hl:=rv.length;rw [List.length_map] at hl;refine call_all_walk (wpAny_pyIter_list pl.isList ?_);refine ⟨s.heap.objs.size,_,_,_,_,_,fun i=>bs.getD i true,rfl,Walks.list (A:=X.A.in1) (I.ok.hd hc) s.heap.objs.size p (Nat.ne_of_lt (Heap.lt_size e)) its.toArray,⟨⟨_,Heap.get?_push_size _ rfl,rfl,rfl⟩,pl.isList.push _⟩,fun i v s' Q' E' hP hQ=>?_,fun h' tk kp=>?_⟩
 ·rw [z5f rv hP];exact wpAny_truthy_bool hQ
 ·have e1:(List.range its.toArray.size).all (fun i=>bs.getD i true)=bs.all id:=all_range bs _ (by rw [List.size_toArray];lia);rw [e1];exact ⟨.bl _,H,I.kept (t':=tk) fun b ob q=>kp b ob (fun z=>absurd (List.mem_singleton.mp z) (Nat.ne_of_lt (Heap.lt_size q))) (Heap.get?_push_of_some _ q),rfl,q⟩
theorem zz2 (hc:X.calm=true):zca X (.builtin "any") (fun xs H Q=>∃ (p:Addr) (bs:List Bool),xs=[.ref p]/\SqL X.K H p (bs.map V.bl)/\Q (.bl (bs.any id)) H):=by
 intro pins s σ H xs us Q I r h;obtain ⟨p,bs,rfl,hq,q⟩:=h;obtain ⟨u,rfl,ru⟩:=vals1 r;cases ru
 obtain ⟨its,rv,pl,hz⟩:=I.list hq;obtain ⟨o,e,_⟩:=pl.isList;have hl:=rv.length;rw [List.length_map] at hl;refine call_any_walk (wpAny_pyIter_list pl.isList ?_);refine ⟨s.heap.objs.size,_,_,_,_,_,fun i=>bs.getD i true,rfl,Walks.list (A:=X.A.in1) (I.ok.hd hc) s.heap.objs.size p (Nat.ne_of_lt (Heap.lt_size e)) its.toArray,⟨⟨_,Heap.get?_push_size _ rfl,rfl,rfl⟩,pl.isList.push _⟩,fun i v s' Q' E' hP hQ=>?_,fun h' tk kp=>?_⟩
 ·rw [z5f rv hP];exact wpAny_truthy_bool hQ
 ·have e1:(List.range its.toArray.size).any (fun i=>bs.getD i true)=bs.any id:=any_range bs _ (by rw [List.size_toArray];lia);rw [e1];exact ⟨.bl _,H,I.kept (t':=tk) fun b ob q=>kp b ob (fun z=>absurd (List.mem_singleton.mp z) (Nat.ne_of_lt (Heap.lt_size q))) (Heap.get?_push_of_some _ q),rfl,q⟩
theorem zzd (hc:X.calm=true):zca X (.builtin "sum") (fun xs H Q=>∃ (p:Addr) (ns:List Int),xs=[.ref p]/\SqL X.K H p (ns.map V.int)/\Q (.int ns.sum) H):=by
 intro pins s σ H xs us Q I r h;obtain ⟨p,ns,rfl,hq,q⟩:=h;obtain ⟨u,rfl,ru⟩:=vals1 r;cases ru
 obtain ⟨its,rv,pl,hz⟩:=I.list hq;obtain ⟨o,e,_⟩:=pl.isList;have hl:=rv.length;rw [List.length_map] at hl;refine call_sum_walkG (wpAny_pyIter_list pl.isList ?_);refine ⟨s.heap.objs.size,_,_,_,_,_,fun i=>ns.getD i 0,rfl,Walks.list (A:=X.A.in1) (I.ok.hd hc) s.heap.objs.size p (Nat.ne_of_lt (Heap.lt_size e)) its.toArray,⟨⟨_,Heap.get?_push_size _ rfl,rfl,rfl⟩,pl.isList.push _⟩,fun b hb=>?_,fun i v hP=>?_,fun h' tk t' kp=>?_⟩
 ·rw [Heap.size_push];simp only [List.mem_cons,List.not_mem_nil,or_false] at hb;rcases hb with rfl|rfl
  ·exact Nat.lt_succ_self _
  ·exact Nat.lt_succ_of_lt (Heap.lt_size e)
 ·have hP':its[i]?=some v:=by simpa using hP
  have hi:i<its.length:=(List.getElem?_eq_some_iff.mp hP').1;have hb:(ns.map V.int)[i]?=some (.int (ns.getD i 0)):=by
   rw [List.getElem?_map,List.getD_eq_getElem?_getD];have:i<ns.length:=by lia
   simp [this]
  obtain ⟨u,e,ru⟩:=rv.get hb;rw [hP'] at e;cases e
  exact ru
 ·have e1:preSum (fun i=>ns.getD i 0) its.toArray.size=ns.sum:=by
   rw [preSum_getD,List.size_toArray,<- hl,List.take_length]
  rw [e1];exact ⟨.int _,H,I.kept (t':=tk) fun b ob q=>kp b ob (fun z=>absurd (List.mem_singleton.mp z) (Nat.ne_of_lt (Heap.lt_size q))) (Heap.get?_push_of_some _ q),⟨_,rfl⟩,q⟩
noncomputable def clsOf:V->Option Value
 |.ty n=>some (.type n)
 |.ref a=>some (.ref a)
 |_=>none
noncomputable def z1x (K:PySem.W.Frag) (xs:List V) (H:Hp) (Q:VK):Prop:=∃ x c cv t b,xs=[x,c]/\clsOf c=some cv/\zut K H x t/\PySem.W.kitOne K t cv=some b/\Q (.bl b) H
theorem zbl:zca X (.builtin "isinstance") (z1x X.K):=by
 intro pins s σ H xs us Q I r h;obtain ⟨x,c,cv,t,b,rfl,hcv,ty,e,q⟩:=h;obtain ⟨u,w',rfl,ru,rw'⟩:=vals2 r;have ec:w'=cv:=by
  cases c with
  |ty n=>cases hcv;exact rw'
  |ref a=>cases hcv;exact rw'
  |_=>cases hcv
 subst ec;exact zyh I ru ty e fun tk=>⟨.bl b,H,I.tok tk,rfl,q⟩
end
mutual
inductive RdV (K:PySem.W.Frag) (H:Hp):V->PyData->Prop
 |non:RdV K H .non .none
 |bl (b:Bool):RdV K H (.bl b) (.bool b)
 |int (i:Int):RdV K H (.int i) (.int i)
 |str (x:Str):RdV K H (.str x) (.str x)
 |lst {a:Addr} {xs:List V} {ds:List PyData}:SqL K H a xs->zs7 K H xs ds->RdV K H (.ref a) (.list ds)
 |tup {a:Addr} {xs:List V} {ds:List PyData}:SqT K H a xs->zs7 K H xs ds->RdV K H (.ref a) (.tuple ds)
inductive zs7 (K:PySem.W.Frag) (H:Hp):List V->List PyData->Prop
 |nil:zs7 K H [] []
 |cons {x:V} {d:PyData} {xs:List V} {ds:List PyData}:RdV K H x d->zs7 K H xs ds->zs7 K H (x::xs) (d::ds)
end
section
variable {X:Cx}{pins:List (Addr×Obj)}{σ:St}{H:Hp}{s:Shared}
mutual
theorem RdV.reads (I:Inv X pins σ H s):∀ {v:V}{d:PyData}{u:Value},RdV X.K H v d->RelV v u->∃ as,Reads s.heap u d as
 |_,_,u,.non,r=>by cases (show u=Value.none from r);exact ⟨_,.none⟩
 |_,_,u,.bl b,r=>by cases (show u=Value.bool b from r);exact ⟨_,.bool b⟩
 |_,_,u,.int i,r=>by obtain ⟨t,rfl⟩:=(show ∃ t,u=Value.int i t from r);exact ⟨_,.int i t⟩
 |_,_,u,.str x,r=>by obtain ⟨t,rfl⟩:=(show ∃ t,u=Value.str x t from r);exact ⟨_,.str x t⟩
 |_,_,u,.lst (a:=a) q rs,r=>by
  cases (show u=Value.ref a from r)
  obtain ⟨its,rv,pl,_⟩:=I.list q;obtain ⟨as,ra⟩:=zs7.reads I rs rv;obtain ⟨o,e,c,n,d⟩:=pl.isList;exact ⟨_,.list e c d (by simpa using ra)⟩
 |_,_,u,.tup (a:=a) q rs,r=>by
  cases (show u=Value.ref a from r)
  obtain ⟨its,rv,pl,_⟩:=I.tuple q;obtain ⟨as,ra⟩:=zs7.reads I rs rv;obtain ⟨o,e,c,n,d⟩:=pl;exact ⟨_,.tuple e c d (by simpa using ra)⟩
theorem zs7.reads (I:Inv X pins σ H s):∀ {vs:List V}{ds:List PyData}{us:List Value},zs7 X.K H vs ds->Vals vs us->∃ as,ReadsAll s.heap us ds as
 |_,_,_,.nil,r=>by cases r;exact ⟨_,.nil⟩
 |_,_,_,.cons h t,r=>by
  cases r with
  |cons r1 r2 =>
   obtain ⟨as,h1⟩:=RdV.reads I h r1;obtain ⟨bs,h2⟩:=zs7.reads I t r2;exact ⟨_,.cons h1 h2⟩
end
end
theorem zs7.ints {K:PySem.W.Frag}{H:Hp}:∀ ns:List Int,zs7 K H (ns.map V.int) (ns.map PyData.int)
 |[]=>.nil
 |n::r=>.cons (.int n) (zs7.ints r)
noncomputable abbrev dI (ns:List Int):PyData:=.list (ns.map PyData.int)
theorem RdV.ints {K:PySem.W.Frag}{H:Hp}{a:Addr}{ns:List Int} (h:SqL K H a (ns.map V.int)):RdV K H (.ref a) (dI ns):=.lst h (zs7.ints ns)
noncomputable def zt0 (K:PySem.W.Frag) (neg:Bool):R2:=fun x y H Q=>∃ d e,RdV K H x d/\RdV K H y e/\SeqAt.shaped d=true/\SeqAt.shaped e=true/\Q (.bl (if neg then !PyData.eqv d e else PyData.eqv d e)) H
section
variable {X:Cx}
theorem z4m (hu:X.A.units+64<cLine):OpR X (compareOp .Eq) (zt0 X.K false):=by
 intro pins s σ H x y v u Q I rx ry h;obtain ⟨d,e,h1,h2,h3,h4,q⟩:=h;obtain ⟨as,r1⟩:=h1.reads I rx;obtain ⟨bs,r2⟩:=h2.reads I ry;exact eq_dataH r1 r2 h3 h4 hu ⟨.bl _,H,I,rfl,q⟩
theorem z5e (hu:X.A.units+64<cLine):OpR X (compareOp .NotEq) (zt0 X.K true):=by
 intro pins s σ H x y v u Q I rx ry h;obtain ⟨d,e,h1,h2,h3,h4,q⟩:=h;obtain ⟨as,r1⟩:=h1.reads I rx;obtain ⟨bs,r2⟩:=h2.reads I ry;exact ne_dataH r1 r2 h3 h4 hu ⟨.bl _,H,I,rfl,q⟩
theorem yp (hu:X.A.units+64<cLine):OpR X (compareOp .Eq) (fun x y H Q=>rEq x y H Q\/zt0 X.K false x y H Q):=z8u.or (z4m hu)
theorem za8 (hu:X.A.units+64<cLine):OpR X (compareOp .NotEq) (fun x y H Q=>rNe x y H Q\/zt0 X.K true x y H Q):=z7x.or (z5e hu)
end
noncomputable def zor (xs:List V) (lo hi st:Option Int):List V:=(sliceRange (sliceBounds lo hi st xs.length).1 (sliceBounds lo hi st xs.length).2.1 (sliceBounds lo hi st xs.length).2.2).filterMap fun i=>xs[i]?
theorem Vals.pick {xs:List V}{us:List Value} (r:Vals xs us):∀ l:List Nat,Vals (l.filterMap fun i=>xs[i]?) (l.filterMap fun i=>us[i]?)
 |[]=>.nil
 |i::t=>by
  rw [List.filterMap_cons,List.filterMap_cons];cases hx:xs[i]? with
  |none =>
   rw [r.none_of hx];exact Vals.pick r t
  |some x =>
   obtain ⟨u,hu,ru⟩:=r.get hx;rw [hu];exact .cons ru (Vals.pick r t)
theorem zz6 {xs:List V}{its:List Value} (r:Vals xs its) (lo hi st:Option Int):Vals (zor xs lo hi st) (slicePick its.toArray lo hi st).toList:=by
 unfold zor slicePick;rw [List.size_toArray,r.length];simp only [List.getElem?_toArray];exact r.pick _
section
variable {X:Cx}{e:Expr}{te:TE}{lo hi:Option Expr}{st:Expr}{tl th:TO}{ts:TE}{pos p2:Pos}
noncomputable def z4g (K:PySem.W.Frag) (x:V) (l u:Option Int) (z:V) (H4:Hp) (Q:VK):Prop:=∃ k a xs,z=.int k/\k≠0/\x=.ref a/\SqL K H4 a xs/\∀ p,H4 p=none->Q (.ref p) (upd H4 p (.lst (zor xs l u (some k))))
noncomputable def z9s (K:PySem.W.Frag) (te:TE) (tl th:TO) (ts:TE):TE:=fun σ H Q=>te σ H fun x H1=>tl σ H1 fun l H2=>th σ H2 fun u H3=>ts σ H3 fun z H4=>z4g K x l u z H4 Q
theorem zbt (he:PE X e te) (hl:PO X lo tl) (hu:PO X hi th) (hst:PE X st ts):PE X (.Subscript e (.Slice lo hi (some st) p2) pos) (z9s X.K te tl th ts):=by
 intro pins s σ H Q I h;refine Subscript_ (thn (he pins s σ H _ I h) fun v s1 ⟨x,H1,I1,r1,q1⟩=>?_);refine wpAny_Slice (thn (hl pins s1 σ H1 _ I1 q1) fun vl s2 ⟨l,H2,I2,pl,q2⟩=>thn (hu pins s2 σ H2 _ I2 q2) fun vu s3 ⟨u,H3,I3,pu,q3⟩=>?_);rw [evalPart_some];refine thn (hst pins s3 σ H3 _ I3 q3) fun vk s4 ⟨z,H4,I4,r4,q4⟩=>?_;obtain ⟨k,a,xs,rfl,hk,rfl,hq,q⟩:=q4;obtain ⟨tk,rfl⟩:=r4;cases r1
 have I5:Inv X pins σ H4 { s4 with heap:=s4.heap.push { cls:=.type "slice",data:=.fields #[vl,vu,.int k tk] } }:=I4.kept (t':=s4.toks) fun b ob w'=>Heap.get?_push_of_some _ w';obtain ⟨its,rv,pt,hz⟩:=I5.list hq;have hlen:=rv.length;show wpAny (model X.prog X.w) X.A (subscriptTail e (.Slice lo hi (some st) p2) (.ref a) (.ref s4.heap.objs.size)) (EP X pins σ Q) X.xe _
 refine tail_any (ops:=[.ref a,.ref s4.heap.objs.size]) pt.isList.typeIs slot_list_getitem.lookup ?_ (by with_unfolding_all rfl);refine wpAny_getItem_list_slice pt.isList (Heap.IsSliceOf.new ..) pl pu (.int k tk) (by simpa using hk) ?_ (by rw [List.size_toArray]<;>lia);refine ⟨.ref _,_,I5.laid (t':=s4.toks) (o:=.lst (zor xs l u (some k))) (fun b ob w'=>Heap.get?_push_of_some _ w') (Nat.le_refl _) ?_,rfl,q _ (I5.hok.fresh (Nat.le_refl _))⟩;have pv:=zz6 rv l u (some k);have e2:(slicePick its.toArray l u (some k)).toList.toArray=slicePick its.toArray l u (some k):=by simp
 refine ⟨?_,_,0,pv,by rw [e2];exact Heap.get?_push_size _ rfl⟩;have sz:=slicePick_size_le its.toArray l u (some k);have e1:=pv.length;have e3:(slicePick its.toArray l u (some k)).toList.length=(slicePick its.toArray l u (some k)).size:=by simp
 have e4:its.toArray.size=its.length:=by simp
 rw [e3] at e1;rw [e4] at sz;rw [e1];exact Nat.le_trans sz (by rw [<- hlen];exact hz)
end
end L2
namespace L2
open PySem PySem.Spec PyProof.Rows
section
variable {X:Cx}{a b e:Expr}{ta tb te:TE}{pos:Pos}
theorem zsx {x:Str}{n:String}{pos:Pos} (hg:Gl X x) (hm:X.mg x=none) (hv:bootBuiltins x=some (.type n)) (hn:x≠"__name__":=by decide) (hd:(x==("__debug__":Str))=false:=by decide):PE X (.Name x pos) (tC (.ty n)):=z3r hg hm hv rfl hn hd
theorem zxg {x:Str}{c:Addr}{pos:Pos} (hg:Gl X x) (hm:X.mg x=some (.ref c)) (hd:(x==("__debug__":Str))=false:=by decide):PE X (.Name x pos) (tC (.ref c)):=z3w hg hm rfl hd
theorem z5m {t u:TE} (h:PE X e t) (h':PE X e u):PE X e (fun σ H Q=>t σ H Q\/u σ H Q):=by
 intro pins s σ H Q I q;rcases q with q|q
 ·exact h pins s σ H Q I q
 ·exact h' pins s σ H Q I q
noncomputable def z0h:R2:=fun x y H Q=>rI0 (fun i j=>.int (i+j)) x y H Q\/z9b x y H Q
theorem z8:OpR X (binaryOp .Add) z0h:=z5h.or z5p
theorem z3p:OpR X (binaryOp .Mult) (rI IntMulOk fun i j=>.int (i*j)):=opI fun _ _ _ _ _ _ _ hc q=>mul_int q hc
noncomputable def zuy (K:PySem.W.Frag):R2:=fun x y H Q=>z88 K x y H Q\/z9v K x y H Q
theorem qaf:IxR X (zuy X.K):=z2w.or z4y
noncomputable def zsd (K:PySem.W.Frag):List V->Hp->VK->Prop:=fun xs H Q=>(∃ p ys,xs=[.ref p]/\(SqL K H p ys\/SqT K H p ys)/\Q (.int ys.length) H)\/(∃ a kvs,xs=[V.ref a]/\H a=some (.dK kvs)/\Q (.int kvs.length) H)
theorem z7l:zca X (.builtin "len") (zsd X.K):=zr3.or zx8
end
noncomputable def zyw (env:List (Str×NameKind)) (XN N:List Str) (scope:Scope) (k:Nat) (caps:List Nat):Bool :=
 (match scope.kind with|.function=>true|_=>false) &&
 scope.names.all (fun y=>(match y.2 with
  |.cell=>false
  |.free=>(match env.lookup y.1 with|some .cell=>true|some .free=>true|_=>false)
  |.local=>(match scope.names.lookup y.1 with|some .local=>true|_=>false)
  |_=>true)) &&
 Nat.beq N.length (k+caps.length) &&
 (List.range caps.length).all fun i=>match caps[i]? with
  |some j=>(match N[k+i]?,XN[j]? with
   |some x,some y=>decide (x=y)&&(match scope.names.lookup x with|some .free=>true|_=>false)
   |_,_=>false)
  |none=>false
theorem Block.of {X:Cx}{N:List Str}{scope:Scope}{k:Nat}{caps:List Nat} (h:zyw X.env.scope.names X.N N scope k caps=true):Block X N scope k caps:=by
 unfold zyw at h;simp only [Bool.and_eq_true] at h;obtain ⟨⟨⟨h1,h2⟩,h3⟩,h4⟩:=h;have h2:=List.all_eq_true.mp h2;have h4:=List.all_eq_true.mp h4;refine ⟨?_,fun y hy=>?_,fun y hy e=>?_,fun y hy e=>?_,Nat.eq_of_beq_eq_true h3,fun i j hj=>?_⟩
 ·revert h1
  cases scope.kind<;>intro h1<;>first|rfl|cases h1
 ·have:=h2 y hy;intro e;rw [e] at this;cases this
 ·have:=h2 y hy;rw [e] at this;simp only at this
  revert this
  cases X.env.scope.names.lookup y.1 with
  |none=>intro z;cases z
  |some q=>cases q<;>intro z<;>first|exact .inl rfl|exact .inr rfl|cases z
 ·have:=h2 y hy;rw [e] at this;simp only at this
  revert this
  cases scope.names.lookup y.1 with
  |none=>intro z;cases z
  |some q=>cases q<;>intro z<;>first|rfl|cases z
 ·have hi:i<caps.length:=(List.getElem?_eq_some_iff.mp hj).1;have:=h4 i (List.mem_range.mpr hi);rw [hj] at this;simp only at this
  revert this
  cases hN:N[k+i]? with
  |none=>intro z;cases z
  |some x =>
   cases hX:X.N[j]? with
   |none=>intro z;cases z
   |some y =>
    intro z;simp only [Bool.and_eq_true,decide_eq_true_eq] at z;obtain ⟨z1,z2⟩:=z;refine ⟨x,rfl,by rw [z1],?_⟩;revert z2
    cases scope.names.lookup x with
    |none=>intro z;cases z
    |some q=>cases q<;>intro z<;>first|rfl|cases z
section
variable {σ:St}{H H':Hp}{Q:VK}{D:Ends}{K:PySem.W.Frag}
theorem zu {q p:Addr}{u o:HO} (h:H q=some u) (hp:H p=none):upd H p o q=some u:=by rw [qz (zj h hp)];exact h
theorem zf {q p:Addr}{u o:HO} (h:H q=some u) (hne:q≠p):upd H p o q=some u:=by rw [qz hne];exact h
theorem Same.at {q:Addr}{u:HO} (s:Same H H') (h:H q=some u):H' q=some u:=s q u h
theorem z21 {q p:Addr}{xs:List V}{o:HO} (h:SqL K H q xs) (hp:H p=none):SqL K (upd H p o) q xs:=(Same.upd_new hp).seq h
theorem zy6 {q p:Addr}{xs:List V}{o:HO} (h:SqL K H q xs) (hne:q≠p):SqL K (upd H p o) q xs:=by
 rcases h with (h|⟨u,h⟩)|h
 ·exact .inl (.inl (zf h hne))
 ·exact .inl (.inr ⟨u,zf h hne⟩)
 ·exact .inr h
noncomputable def SameBut (ls:List Addr) (H H':Hp):Prop:=∀ b o,H b=some o->b∉ls->H' b=some o
theorem Same.but {ls:List Addr} (s:Same H H'):SameBut ls H H':=fun b o h _=>s b o h
theorem SameBut.at {ls:List Addr}{q:Addr}{u:HO} (s:SameBut ls H H') (h:H q=some u) (hn:q∉ls):H' q=some u:=s q u h hn
theorem SameBut.upd {ls:List Addr}{p:Addr}{o:HO} (s:SameBut ls H H') (hp:p∈ls):SameBut ls H (upd H' p o):=fun b u h hn=>by
 rw [qz (fun e=>by subst e;exact hn hp)];exact s b u h hn
theorem SameBut.new {ls:List Addr}{p:Addr}{o:HO} (s:SameBut ls H H') (hp:H' p=none):SameBut ls H (L2.upd H' p o):=fun b u h hn=>zu (s b u h hn) hp
theorem SameBut.trans {ls:List Addr}{H1 H2:Hp} (a:SameBut ls H H1) (b:SameBut ls H1 H2):SameBut ls H H2:=fun c o h hn=>b c o (a c o h hn) hn
theorem z8r {t u:TS} (h:t { D with nx:=u D } σ H):z8g t u D σ H:=h
theorem z8s {te:TE}{g:TG} (h:te σ H fun x H1=>g x σ H1 D.nx):z6q te g D σ H:=h
theorem z8b {c:TT}{t u:TS} (h:c σ H fun b H1=>if b=true then t D σ H1 else u D σ H1):z7c c t u D σ H:=h
theorem z8l {te:TE} (h:te σ H D.rt):z7d te D σ H:=h
theorem z61 (h:D.nx σ H):z2n D σ H:=h
theorem z6p {te:TE} (h:te σ H fun _ H1=>D.nx σ H1):z23 te D σ H:=h
theorem z2u (h:D.bk σ H):z1r D σ H:=h
theorem z5k {i:Nat}{v:V} (e:σ[i]?=some (some v)) (h:Q v H):zwq i σ H Q:=⟨v,e,h⟩
theorem r_c {v:V} (h:Q v H):tC v σ H Q:=h
theorem z95 {r:R2}{ta tb:TE} (h:ta σ H fun x H1=>tb σ H1 fun y H2=>r x y H2 Q):tOp r ta tb σ H Q:=h
theorem qaq {r:V->Hp->VK->Prop}{ta:TE} (h:ta σ H fun x H1=>r x H1 Q):tUn r ta σ H Q:=h
theorem z96 {r:List V->Hp->VK->Prop}{t:TA} (h:t σ H fun vs H1=>r vs H1 Q):tCB r t σ H Q:=h
theorem z6u {ta:TE}{tr:TA}{R:List V->Hp->Prop} (h:ta σ H fun x H1=>tr σ H1 fun xs H2=>R (x::xs) H2):zn8 ta tr σ H R:=h
theorem z82 {R:List V->Hp->Prop} (h:R [] H):z08 σ H R:=h
theorem z4v {t:TE}{R:Bool->Hp->Prop} (h:t σ H fun x H1=>∃ k,x=.bl k/\R k H1):zve t σ H R:=h
theorem qac {t:TE}{R:Bool->Hp->Prop} (h:t σ H fun x H1=>∃ k,x=.bl k/\R k H1):tB t σ H R:=h
theorem qat {b:Bool}{R:Bool->Prop} (h:R b):∃ k,V.bl b=.bl k/\R k:=⟨b,rfl,h⟩
theorem z71 {t:TT}{R:Bool->Hp->Prop} (h:t σ H fun c H1=>R (!c) H1):z90 t σ H R:=h
theorem z7y {t u:TT}{R:Bool->Hp->Prop} (h:t σ H fun c H1=>if c=true then u σ H1 R else R false H1):z8p t u σ H R:=h
theorem qad {t u:TT}{R:Bool->Hp->Prop} (h:t σ H fun c H1=>if c=true then R true H1 else u σ H1 R):tOr t u σ H R:=h
theorem z5a {ta tb:TE} (h:ta σ H fun x H1=>∃ c,x=.bl c/\if c=true then tb σ H1 Q else Q (.bl false) H1):z00 ta tb σ H Q:=h
theorem z51 {ta:TE} (h:ta σ H fun x H1=>∃ c,x=.bl c/\Q (.bl (!c)) H1):z40 ta σ H Q:=h
theorem z3n {t:TT}{ta tb:TE} (h:t σ H fun c H1=>if c=true then ta σ H1 Q else tb σ H1 Q):tIf t ta tb σ H Q:=h
theorem z57 {sp:Sp}{dvs:List V}{E:XK}{t:TA} (h:t σ H fun vs H1=>sp (vs++dvs) H1 Q E):z02 sp dvs E t σ H Q:=h
theorem z24 {r r':R2}{ta tb tc:TE} (h:ta σ H fun x H1=>tb σ H1 fun y H2=>r x y H2 fun z H3=>∃ k,z=.bl k/\(if k=true then tc σ H3 fun w' H4=>r' y w' H4 Q else Q (.bl false) H3)):zyj r r' ta tb tc σ H Q:=h
noncomputable def z4f (Q:VK) (xs:List V) (H1:Hp):Prop:=xs.length<=sizeLine/\∀ p,H1 p=none->Q (.ref p) (upd H1 p (.lst xs))
noncomputable def z91 (Q:VK) (xs:List V) (H1:Hp):Prop:=xs.length<=sizeLine/\∀ p,H1 p=none->Q (.ref p) (upd H1 p (.tup xs))
theorem z80 {t:TA} (h:t σ H fun xs H1=>z4f Q xs H1):z9c t σ H Q:=h
theorem z74 {t:TA} (h:t σ H fun xs H1=>z91 Q xs H1):z9i t σ H Q:=h
theorem zsg {xs:List V} (hn:xs.length<=1000) (h:∀ p,H p=none->Q (.ref p) (upd H p (.lst xs))):z4f Q xs H:=⟨Nat.le_trans hn (by decide),h⟩
theorem z48 {xs:List V} (hn:xs.length<=1000) (h:∀ p,H p=none->Q (.ref p) (upd H p (.tup xs))):z91 Q xs H:=⟨Nat.le_trans hn (by decide),h⟩
theorem qae {r:V->Option Int->Option Int->Hp->VK->Prop}{te:TE}{tl th:TO} (h:te σ H fun x H1=>tl σ H1 fun l H2=>th σ H2 fun u H3=>r x l u H3 Q):tSl r te tl th σ H Q:=h
theorem z6l {t:TE}{R:Option Int->Hp->Prop} (h:t σ H fun x H1=>∃ i,x=.int i/\R (some i) H1):z47 t σ H R:=h
theorem z1d {R:Option Int->Hp->Prop} (h:R none H):zxp σ H R:=h
theorem z8c {i:Int}{R:Int->Prop} (h:R i):∃ k,V.int i=.int k/\R k:=⟨i,rfl,h⟩
theorem z5j {wi:TI}{g:TG}{ti:TT}{te:TE}{k:Nat}{caps:List Nat} (h:wi σ H fun J H1=>zes J g ti te k caps σ Q H1):z0q wi g ti te k caps σ H Q:=h
noncomputable def zye (J:It) (g:TG) (tb:TS) (D:Ends) (σ:St) (H1:Hp):Prop:=∃ W:Nat->Nat->St->Hp->Prop,(∃ m,W 0 m σ H1)/\∀ i m σ H,W i m σ H ->
 (J.stop i H/\D.nx σ H)\/(J.go i H/\∃ N:St->Hp->Prop,(∀ σ' H',N σ' H'->∃ m',m'<m/\W (i+1) m' σ' H')/\∀ x H',J.yld i H x H'->g x σ H' fun σ2 H2=>tb { D with nx:=N,ct:=N,bk:=D.nx } σ2 H2)
theorem z8t {wi:TI}{g:TG}{tb:TS} (h:wi σ H fun J H1=>zye J g tb D σ H1):z9l wi g tb D σ H:=h
noncomputable def AtL (K:PySem.W.Frag) (R:It->Hp->Prop) (x:V) (H1:Hp):Prop:=∃ a,x=.ref a/\(∃ xs,SqL K H1 a xs)/\R (Itl K a) H1
theorem z3v {tl:TE}{R:It->Hp->Prop} (h:tl σ H fun x H1=>AtL K R x H1):z4t K tl σ H R:=h
theorem z0n {a:Addr}{xs:List V}{R:It->Hp->Prop} (hs:SqL K H a xs) (h:R (Itl K a) H):AtL K R (.ref a) H:=⟨a,rfl,⟨xs,hs⟩,h⟩
noncomputable def AtZ (K:PySem.W.Frag) (R:It->Hp->Prop) (vs:List V) (H1:Hp):Prop:=∃ a b,vs=[.ref a,.ref b]/\(∃ xs,SqL K H1 a xs)/\(∃ ys,SqL K H1 b ys)/\R (Itz K a b) H1
theorem z5r {ta:TA}{R:It->Hp->Prop} (h:ta σ H fun vs H1=>AtZ K R vs H1):z9x K ta σ H R:=h
theorem z8i {a b:Addr}{xs ys:List V}{R:It->Hp->Prop} (hs:SqL K H a xs) (ht:SqL K H b ys) (h:R (Itz K a b) H):AtZ K R [.ref a,.ref b] H:=⟨a,b,rfl,⟨xs,hs⟩,⟨ys,ht⟩,h⟩
noncomputable def AtE (K:PySem.W.Frag) (R:It->Hp->Prop) (vs:List V) (H1:Hp):Prop:=∃ a,vs=[.ref a]/\(∃ xs,SqL K H1 a xs)/\R (Ite K a) H1
theorem z3c {ta:TA}{R:It->Hp->Prop} (h:ta σ H fun vs H1=>AtE K R vs H1):z4k K ta σ H R:=h
theorem z60 {a:Addr}{xs:List V}{R:It->Hp->Prop} (hs:SqL K H a xs) (h:R (Ite K a) H):AtE K R [.ref a] H:=⟨a,rfl,⟨xs,hs⟩,h⟩
noncomputable def z9m (R:It->Hp->Prop) (vs:List V) (H1:Hp):Prop:=∃ j:Int,vs=[.int j]/\-(2 ^ 62)<=j/\j<2 ^ 62/\R (Itr 0 j.toNat) H1
theorem z2o {ta:TA}{R:It->Hp->Prop} (h:ta σ H fun vs H1=>z9m R vs H1):z64 ta σ H R:=h
theorem zr4 {j:Int}{R:It->Hp->Prop} (h1:-1000000<=j) (h2:j<=1000000) (h:R (Itr 0 j.toNat) H):z9m R [.int j] H:=⟨j,rfl,by lia,by lia,h⟩
theorem z4o {n:Nat}{t:TGs}{T:Addr}{xs:List V}{R:St->Hp->Prop} (ht:H T=some (.tup xs)) (hn:xs.length=n) (h:t xs σ H R):z9g K n t (.ref T) σ H R:=⟨T,xs,rfl,SqT.of ht,hn,h⟩
theorem z3h {t:TG}{u:TGs}{v:V}{r:List V}{R:St->Hp->Prop} (h:t v σ H fun σ' H'=>u r σ' H' R):z6b t u (v::r) σ H R:=⟨v,r,rfl,h⟩
theorem z6t {R:St->Hp->Prop} (h:R σ H):z9r [] σ H R:=⟨rfl,h⟩
theorem z8e {g:Int->Int->V}{i j:Int} (h:Q (g i j) H):rI0 g (.int i) (.int j) H Q:=⟨i,j,rfl,rfl,h⟩
theorem z9p {C:Int->Int->Prop}{g:Int->Int->V}{i j:Int} (hc:C i j) (h:Q (g i j) H):rI C g (.int i) (.int j) H Q:=⟨i,j,rfl,rfl,hc,h⟩
theorem qau {g:Int->V}{i:Int} (h:Q (g i) H):rU g (.int i) H Q:=⟨i,rfl,h⟩
theorem z6w {i j:Int} (h:Q (.int (i+j)) H):z0h (.int i) (.int j) H Q:=.inl ⟨i,j,rfl,rfl,h⟩
theorem z7s {i j:Int} (h:Q (.bl (decide (i=j))) H):rEq (.int i) (.int j) H Q\/zt0 K false (.int i) (.int j) H Q:=.inl ⟨rfl,by
 have e:decide (V.int i=V.int j)=decide (i=j):=by rw [zq6];by_cases z:i=j<;>simp [z]
 rw [e];exact h⟩
theorem z8v {i j:Int} (h:Q (.bl (!decide (i=j))) H):rNe (.int i) (.int j) H Q\/zt0 K true (.int i) (.int j) H Q:=.inl ⟨rfl,by
 have e:decide (V.int i=V.int j)=decide (i=j):=by rw [zq6];by_cases z:i=j<;>simp [z]
 rw [e];exact h⟩
theorem z7e {i j:Bool} (h:Q (.bl (i==j)) H):rEq (.bl i) (.bl j) H Q\/zt0 K false (.bl i) (.bl j) H Q:=.inl ⟨rfl,by rw [zwt];exact h⟩
theorem zx6 {p:Addr}{ys:List V} (hs:SqL K H p ys) (h:Q (.int ys.length) H):zsd K [.ref p] H Q:=.inl ⟨p,ys,rfl,.inl hs,h⟩
theorem z41 {p:Addr}{ns:List Int} (hs:SqL K H p (ns.map V.int)) (h:Q (.int ns.length) H):zsd K [.ref p] H Q:=zx6 hs (by rw [List.length_map];exact h)
theorem z6x {p:Addr}{kvs:List (Key×V)} (hs:H p=some (.dK kvs)) (h:Q (.int kvs.length) H):zsd K [.ref p] H Q:=.inr ⟨p,kvs,rfl,hs,h⟩
theorem zi1 {l b:Addr}{xs zs:List Int} (h1:H l=some (.lst (xs.map V.int))) (h2:H b=some (.lst (zs.map V.int))) (hz:xs.length+zs.length<=1000000) (h:∀ p,H p=none->Q (.ref p) (upd H p (.lst ((xs++zs).map V.int)))):z0h (.ref l) (.ref b) H Q:=by
 refine .inr ⟨l,b,_,_,rfl,rfl,h1,h2,?_,fun p hp=>?_⟩
 ·rw [List.length_map,List.length_map];exact Nat.le_trans hz (by decide)
 ·rw [<- List.map_append];exact h p hp
theorem z2s {ns:List Int}{i:Int} (h0:0<=i) (h1:i<ns.length):atI (ns.map V.int) i=some (.int (ns.getD i.toNat 0)):=by
 obtain ⟨j,rfl⟩:∃ j:Nat,i=j:=⟨i.toNat,by lia⟩
 have hj:j<ns.length:=by lia
 refine zua ?_;rw [List.getElem?_map,Int.toNat_natCast,List.getD_eq_getElem?_getD];simp [hj]
theorem zxm {ns:List Int} (h:ns≠[]):atI (ns.map V.int) (-1)=some (.int (ns.getLast h)):=by
 have e:ns.map V.int=(ns.dropLast).map V.int++[.int (ns.getLast h)]:=by
  conv=>lhs;rw [<- List.dropLast_concat_getLast h]
  rw [List.map_append];rfl
 rw [e];exact zuq _ _
theorem zah {p:Addr}{ns:List Int}{i:Int} (hs:SqL K H p (ns.map V.int)) (h0:0<=i) (h1:i<ns.length) (h:Q (.int (ns.getD i.toNat 0)) H):zuy K (.ref p) (.int i) H Q:=.inl ⟨p,_,i,_,rfl,rfl,hs,z2s h0 h1,h⟩
theorem zuu {p:Addr}{ns:List Int} (hs:SqL K H p (ns.map V.int)) (hn:ns≠[]) (h:Q (.int (ns.getLast hn)) H):zuy K (.ref p) (.int (-1)) H Q:=.inl ⟨p,_,_,_,rfl,rfl,hs,zxm hn,h⟩
theorem z0j {p:Addr}{xs:List V}{i:Int}{v:V} (hs:SqL K H p xs) (e:atI xs i=some v) (h:Q v H):zuy K (.ref p) (.int i) H Q:=.inl ⟨p,_,i,_,rfl,rfl,hs,e,h⟩
theorem zlh {p:Addr}{xs:List V}{i:Int}{v:V} (hs:H p=some (.tup xs)) (e:atI xs i=some v) (h:Q v H):zuy K (.ref p) (.int i) H Q:=.inr ⟨p,_,i,_,rfl,rfl,SqT.of hs,e,h⟩
theorem zhb (ns:List Int):SeqAt.shaped (dI ns)=true:=PySem.W.ke_shaped_ints ns
theorem zxy (xs ys:List Int):PyData.eqv (dI xs) (dI ys)=decide (xs=ys):=by rw [PyData.eqv];exact PySem.W.ked_eqvAll xs ys
theorem z70 {a b:Addr}{xs ys:List Int} (h1:SqL K H a (xs.map V.int)) (h2:SqL K H b (ys.map V.int)) (h:Q (.bl (decide (xs=ys))) H):rEq (.ref a) (.ref b) H Q\/zt0 K false (.ref a) (.ref b) H Q :=
 .inr ⟨dI xs,dI ys,RdV.ints h1,RdV.ints h2,zhb _,zhb _,by rw [if_neg (by decide),zxy];exact h⟩
theorem z75 {a b:Addr}{xs ys:List Int} (h1:SqL K H a (xs.map V.int)) (h2:SqL K H b (ys.map V.int)) (h:Q (.bl (!decide (xs=ys))) H):rNe (.ref a) (.ref b) H Q\/zt0 K true (.ref a) (.ref b) H Q :=
 .inr ⟨dI xs,dI ys,RdV.ints h1,RdV.ints h2,zhb _,zhb _,by rw [if_pos rfl,zxy];exact h⟩
theorem zrh (x:Int):∀ ns:List Int,inV (.int x) (ns.map V.int)=decide (x∈ns)
 |[]=>by simp [inV]
 |n::r=>by
  have ih:=zrh x r;unfold inV at ih ⊢;rw [List.map_cons,List.any_cons,ih];show ((n==x)||_)=_
  by_cases e:n=x
  ·subst e;simp
  ·have e':¬ x=n:=fun z=>e z.symm;simp [e,e']
theorem znx:∀ ns:List Int,(ns.map V.int).all zq1=true
 |[]=>rfl
 |n::r=>by rw [List.map_cons,List.all_cons,znx r];rfl
theorem z7r {p:Addr}{x:Int}{ns:List Int} (hs:SqL K H p (ns.map V.int)) (h:Q (.bl (decide (x∈ns))) H):rIn K false (.int x) (.ref p) H Q:=⟨p,_,rfl,.inl hs,rfl,znx ns,by rw [if_neg (by decide),zrh];exact h⟩
theorem zzu {p:Addr}{x:Int}{ns:List Int} (hs:SqL K H p (ns.map V.int)) (h:Q (.bl (!decide (x∈ns))) H):rIn K true (.int x) (.ref p) H Q:=⟨p,_,rfl,.inl hs,rfl,znx ns,by rw [if_pos rfl,zrh];exact h⟩
noncomputable def zxl (xs:List Int) (lo hi:Option Int):List Int:=(xs.drop (HT.sIx xs.length 0 lo)).take (HT.sIx xs.length xs.length hi-HT.sIx xs.length 0 lo)
theorem zws (ns:List Int) (lo hi:Option Int):zzq (ns.map V.int) lo hi=(zxl ns lo hi).map V.int:=by
 unfold zzq zxl;rw [List.length_map,List.map_take,List.map_drop]
theorem z0k {a:Addr}{ns:List Int}{lo hi:Option Int} (hs:SqL K H a (ns.map V.int)) (h:∀ p,H p=none->Q (.ref p) (upd H p (.lst ((zxl ns lo hi).map V.int)))):z1q K (.ref a) lo hi H Q:=⟨a,_,rfl,hs,fun p hp=>by rw [zws];exact h p hp⟩
theorem zp4 {α:Type} (ys:List α):∀ n,n<=ys.length->((List.range n).filterMap fun k=>ys[k]?)=ys.take n
 |0,_=>by simp
 |n+1,h=>by
  rw [List.range_succ,List.filterMap_append,zp4 ys n (by lia),List.take_add_one];have hn:n<ys.length:=by lia
  simp [hn]
theorem z5o (n:Nat):sliceRange ((n:Int)-1) (-1) (-1)=(List.range n).map fun k=>n-1-k:=by
 unfold sliceRange;have e:(if ((-1:Int) > 0) then (if ((n:Int)-1 < -1) then ((-1)-((n:Int)-1)+(-1)-1)/(-1) else 0) else (if ((n:Int)-1 > -1) then ((n:Int)-1-(-1)-(-1)-1)/(-(-1)) else 0)).toNat=n:=by
  rw [if_neg (by decide)];have e1:(-(-1):Int)=1:=by decide
  rw [e1,Int.ediv_one];split<;>lia
 simp only [e];refine List.map_congr_left fun k hk=>?_;have:=List.mem_range.mp hk;lia
theorem zh7 {α β:Type}{f g:α->Option β}:∀ {l:List α},(∀ x∈l,f x=g x)->l.filterMap f=l.filterMap g
 |[],_=>rfl
 |x::r,h=>by
  rw [List.filterMap_cons,List.filterMap_cons,h x List.mem_cons_self,zh7 fun y hy=>h y (List.mem_cons_of_mem _ hy)]
theorem zsh (xs:List V):zor xs none none (some (-1))=xs.reverse:=by
 unfold zor;have eb:sliceBounds none none (some (-1)) xs.length=((xs.length:Int)-1,-1,-1):=PySem.W.krv_bounds _;rw [eb];simp only
 rw [z5o,List.filterMap_map];have e:((List.range xs.length).filterMap ((fun i=>xs[i]?) ∘ fun k=>xs.length-1-k))=(List.range xs.length).filterMap fun k=>xs.reverse[k]?:=by
  refine zh7 fun k hk=>?_;have:=List.mem_range.mp hk;show xs[xs.length-1-k]?=_
  rw [List.getElem?_reverse (by lia)]
 rw [e,zp4 _ _ (by rw [List.length_reverse];lia),<- List.length_reverse (as:=xs),List.take_length]
noncomputable def zcp {α:Type}:List α->List α
 |[]=>[]
 |[x]=>[x]
 |x::_::r=>x::zcp r
theorem znf {α β:Type} (f:α->β):∀ l:List α,zcp (l.map f)=(zcp l).map f
 |[]=>rfl
 |[x]=>rfl
 |x::y::r=>by
  show f x::zcp (r.map f)=f x::(zcp r).map f
  rw [znf f r]
theorem zlf {α:Type}:∀ (xs:List α),((List.range ((xs.length+1)/2)).filterMap fun k=>xs[2*k]?)=zcp xs
 |[]=>by simp [zcp]
 |[x]=>by simp [zcp,List.range_succ]
 |x::y::r=>by
  have ih:=zlf r;have e:((x::y::r).length+1)/2=(r.length+1)/2+1:=by simp only [List.length_cons];lia
  rw [e,List.range_succ_eq_map,List.filterMap_cons];show x::_=x::zcp r
  rw [<- ih,List.filterMap_map];congr 1
theorem z12 (a n:Nat) (h:a<=n):sliceRange (a:Int) (n:Int) 2=(List.range ((n-a+1)/2)).map fun k=>a+2*k:=by
 unfold sliceRange;have e:(if ((2:Int) > 0) then (if ((a:Int)<n) then ((n:Int)-a+2-1)/2 else 0) else (if ((a:Int) > n) then ((a:Int)-n-2-1)/(-2) else 0)).toNat=(n-a+1)/2:=by
  rw [if_pos (by decide)];split<;>lia
 simp only [e];refine List.map_congr_left fun k hk=>?_;lia
theorem zw3 (xs:List V):zor xs none none (some 2)=zcp xs:=by
 unfold zor;have eb:sliceBounds none none (some 2) xs.length=(((0:Nat):Int),(xs.length:Int),2):=rfl;rw [eb];simp only
 rw [z12 0 xs.length (Nat.zero_le _),List.filterMap_map,<- zlf xs,Nat.sub_zero];refine zh7 fun k _=>?_;show xs[0+2*k]?=_
 rw [Nat.zero_add]
theorem zwe (xs:List V):zor xs (some 1) none (some 2)=zcp xs.tail:=by
 unfold zor;cases xs with
 |nil=>rfl
 |cons x r =>
  have eb:sliceBounds (some 1) none (some 2) (x::r).length=(((1:Nat):Int),((r.length+1:Nat):Int),2):=by
   unfold sliceBounds;simp only [Option.getD_some,List.length_cons];have z1:¬ ((1:Int)<0):=by decide
   have z2:((2:Int) > 0):=by decide
   simp only [z1,z2,if_true,if_false];have:max 0 (min (1:Int) ((r.length+1:Nat):Int))=((1:Nat):Int):=by lia
   rw [this]
  rw [eb];simp only
  rw [z12 1 (r.length+1) (by lia),List.filterMap_map];show _=zcp r
  rw [<- zlf r,Nat.add_sub_cancel];refine zh7 fun k _=>?_;show (x::r)[1+2*k]?=_
  rw [Nat.add_comm 1,List.getElem?_cons_succ]
theorem z72 {te:TE}{tl th:TO}{ts:TE} (h:te σ H fun x H1=>tl σ H1 fun l H2=>th σ H2 fun u H3=>ts σ H3 fun z H4=>z4g K x l u z H4 Q):z9s K te tl th ts σ H Q:=h
theorem z77 {a:Addr}{ns:List Int} (hs:SqL K H a (ns.map V.int)) (h:∀ p,H p=none->Q (.ref p) (upd H p (.lst (ns.reverse.map V.int)))):z4g K (.ref a) none none (.int (-1)) H Q :=
 ⟨-1,a,_,rfl,by decide,rfl,hs,fun p hp=>by rw [zsh,<- List.map_reverse];exact h p hp⟩
theorem z97 {a:Addr}{ns:List Int} (hs:SqL K H a (ns.map V.int)) (h:∀ p,H p=none->Q (.ref p) (upd H p (.lst ((zcp ns).map V.int)))):z4g K (.ref a) none none (.int 2) H Q :=
 ⟨2,a,_,rfl,by decide,rfl,hs,fun p hp=>by rw [zw3,znf];exact h p hp⟩
theorem qag {a:Addr}{ns:List Int} (hs:SqL K H a (ns.map V.int)) (h:∀ p,H p=none->Q (.ref p) (upd H p (.lst ((zcp ns.tail).map V.int)))):z4g K (.ref a) (some 1) none (.int 2) H Q :=
 ⟨2,a,_,rfl,by decide,rfl,hs,fun p hp=>by
  have e:zcp (ns.map V.int).tail=(zcp ns.tail).map V.int:=by rw [<- List.map_tail,znf]
  rw [zwe,e];exact h p hp⟩
theorem zia {l:Addr}{xs:List V}{y:V} (hl:H l=some (.lst xs)) (hz:xs.length<1000000) (h:Q .non (upd H l (.lst (xs++[y])))):zln (.ref l) [y] H Q:=⟨l,xs,y,rfl,rfl,hl,Nat.lt_of_lt_of_le hz (by decide),h⟩
noncomputable def AtM (K:PySem.W.Frag) (x:V) (H1:Hp) (R:Prop):Prop:=tyV K "list" x H1/\R
theorem z81 {r:V->List V->Hp->VK->Prop}{to:TE}{t:TA} (h:to σ H fun x H1=>AtM K x H1 (t σ H1 fun xs H2=>r x xs H2 Q)):tBM K "list" r to t σ H Q:=h
theorem z49 {r:V->List V->Hp->VK->Prop}{to:TE} (h:to σ H fun x H1=>AtM K x H1 (r x [] H1 Q)):z9h K "list" r to σ H Q:=h
theorem z78 {p:Addr}{xs:List V}{R:Prop} (hs:SqL K H p xs) (h:R):AtM K (.ref p) H R:=⟨.inl ⟨rfl,xs,hs⟩,h⟩
end
theorem wz {K:PySem.W.Frag}{a:Addr}{ns:List Int}:Ov (Itl K a) ns (fun H=>SqL K H a (ns.map V.int)) (fun z x H H'=>x=.int z/\H'=H) where
 go:=fun i H h hi=>(zac (K:=K) (a:=a) (xs:=ns.map V.int)).go i H h (by rw [List.length_map];exact hi)
 stop:=fun i H h hi=>(zac (K:=K) (a:=a) (xs:=ns.map V.int)).stop i H h (by rw [List.length_map];exact hi)
 yld:=fun i H x H' y h hy q=>(zac (K:=K) (a:=a) (xs:=ns.map V.int)).yld i H x H' (.int y) h (by rw [List.getElem?_map,hy];rfl) q
theorem zt4 {K:PySem.W.Frag}{a b:Addr}{xs ys:List Int}:Ov (Itz K a b) (xs.zip ys) (fun H=>SqL K H a (xs.map V.int)/\SqL K H b (ys.map V.int)) (fun y x H H'=>∃ T,H T=none/\x=.ref T/\H'=upd H T (.tup [.int y.1,.int y.2])) where
 go:=fun i H h hi=>(zxz (K:=K) (a:=a) (b:=b) (xs:=xs.map V.int) (ys:=ys.map V.int)).go i H h (by rw [List.length_zip] at hi ⊢;rw [List.length_map,List.length_map];exact hi)
 stop:=fun i H h hi=>(zxz (K:=K) (a:=a) (b:=b) (xs:=xs.map V.int) (ys:=ys.map V.int)).stop i H h (by rw [List.length_zip] at hi ⊢;rw [List.length_map,List.length_map];exact hi)
 yld:=fun i H x H' y h hy q=>by
  obtain ⟨u,v⟩:=y;exact (zxz (K:=K) (a:=a) (b:=b) (xs:=xs.map V.int) (ys:=ys.map V.int)).yld i H x H' (.int u,.int v) h (by
   rw [List.getElem?_zip_eq_some] at hy ⊢
   rw [List.getElem?_map,List.getElem?_map,hy.1,hy.2];exact ⟨rfl,rfl⟩) q
theorem zh5 {K:PySem.W.Frag}{a:Addr}{xs:List Int}:Ov (Ite K a) xs.zipIdx (fun H=>SqL K H a (xs.map V.int)) (fun y x H H'=>∃ T,H T=none/\x=.ref T/\H'=upd H T (.tup [.int (y.2:Nat),.int y.1])) where
 go:=fun i H h hi=>(zra (K:=K) (a:=a) (xs:=xs.map V.int)).go i H h (by rw [List.length_zipIdx] at hi ⊢;rw [List.length_map];exact hi)
 stop:=fun i H h hi=>(zra (K:=K) (a:=a) (xs:=xs.map V.int)).stop i H h (by rw [List.length_zipIdx] at hi ⊢;rw [List.length_map];exact hi)
 yld:=fun i H x H' y h hy q=>by
  obtain ⟨u,v⟩:=y;refine (zra (K:=K) (a:=a) (xs:=xs.map V.int)).yld i H x H' (.int u,v) h ?_ q;rw [List.getElem?_zipIdx] at hy ⊢;rw [List.getElem?_map];cases e:xs[i]? with
  |none=>rw [e] at hy;cases hy
  |some z =>
   rw [e] at hy;have e2:(z,0+i)=(u,v):=Option.some.inj hy;have e3:z=u:=congrArg Prod.fst e2;have e4:0+i=v:=congrArg Prod.snd e2;rw [e3,e4];rfl
theorem vf {α:Type}{J:It}{l:List α}{kp:Hp->Prop}{rep:α->V->Hp->Hp->Prop} (O:Ov J l kp rep) {g:TG}{tb:TS}{D:Ends}{σ:St}{H:Hp} (Pv:Nat->St->Hp->Prop) (h0:Pv 0 σ H) (hk:∀ i σ H,i<=l.length->Pv i σ H->kp H)
  (hs:∀ i y x σ H H',l[i]?=some y->Pv i σ H->rep y x H H'->g x σ H' fun σ2 H2=>tb { D with nx:=Pv (i+1),ct:=Pv (i+1),bk:=D.nx } σ2 H2) (hd:∀ σ H,Pv l.length σ H->D.nx σ H):zye J g tb D σ H:=z6z O Pv h0 hk hs hd
end L2
namespace L2
theorem z76 {A B:Prop} (h:B):if (!true)=true then A else B:=by rw [if_neg (by decide)];exact h
theorem z86 {A B:Prop} (h:A):if (!false)=true then A else B:=z69 h
theorem zaq {P A B:Prop} [Decidable P] (h1:P->A) (h2:¬ P->B):if decide P=true then A else B:=by
 by_cases h:P
 ·rw [if_pos (decide_eq_true h)];exact h1 h
 ·rw [if_neg (by simp [h])];exact h2 h
theorem zdj {P A B:Prop} [Decidable P] (h1:¬ P->A) (h2:P->B):if (!decide P)=true then A else B:=by
 by_cases h:P
 ·rw [if_neg (by simp [h])];exact h2 h
 ·rw [if_pos (by simp [h])];exact h1 h
theorem zu8 {b:Bool}{A B:Prop} (h1:b=true->A) (h2:b=false->B):if b=true then A else B:=by
 cases b
 ·exact z83 (h2 rfl)
 ·exact z69 (h1 rfl)
theorem zjn {b:Bool}{A B:Prop} (h1:b=false->A) (h2:b=true->B):if (!b)=true then A else B:=by
 cases b
 ·exact z69 (h1 rfl)
 ·exact z83 (h2 rfl)
end L2
namespace L2
open PySem PySem.Spec PyProof.Rows
structure Blt (mg:Str->Option Value):Prop where
 no_len:mg "len"=none
 no_zip:mg "zip"=none
 no_enumerate:mg "enumerate"=none
 no_range:mg "range"=none
 no_list:mg "list"=none
 no_int:mg "int"=none
 no_bool:mg "bool"=none
 no_tuple:mg "tuple"=none
 no_set:mg "set"=none
 no_all:mg "all"=none
 no_any:mg "any"=none
 no_sum:mg "sum"=none
 no_min:mg "min"=none
 no_max:mg "max"=none
 no_sorted:mg "sorted"=none
 no_isinstance:mg "isinstance"=none
 no_dict:mg "dict"=none
structure Cal (K:PySem.W.Frag) (mg:Str->Option Value) (x:Str) (f:Addr) (fd:FuncData) (ps:List Str):Prop where
 mg:mg x=some (.ref f)
 kp:PySem.W.keepIn K (.ref f)=true
 b:Binds K fd ps []
structure Mak (K:PySem.W.Frag) (mg:Str->Option Value) (x:Str) (C f:Addr) (fd:FuncData) (ps:List Str):Prop where
 mg:mg x=some (.ref C)
 mkk:Mk K C f
 cl:Cls K C
 b:Binds K fd ps []
structure Met (K:PySem.W.Frag) (C:Addr) (m:Str) (f:Addr) (fd:FuncData) (ps:List Str):Prop where
 m:Meth K C m f
 b:Binds K fd ps []
theorem z6f {K:PySem.W.Frag}:PySem.W.kitOne K (.type "int") (.type "int")=some true:=rfl
theorem z4q {K:PySem.W.Frag}:PySem.W.kitOne K (.type "int") (.type "bool")=some false:=rfl
theorem z55 {K:PySem.W.Frag}:PySem.W.kitOne K (.type "list") (.type "list")=some true:=rfl
theorem zwo {K:PySem.W.Frag}{H:Hp}{Q:VK}{x c:V}{cv t:Value}{b:Bool} (hc:clsOf c=some cv) (ty:zut K H x t) (e:PySem.W.kitOne K t cv=some b) (h:Q (.bl b) H) :
  z1x K [x,c] H Q:=⟨x,c,cv,t,b,rfl,hc,ty,e,h⟩
theorem z0u {K:PySem.W.Frag}{H:Hp}{Q:VK}{z:Int} (h:Q (.bl true) H):z1x K [.int z,.ty "int"] H Q:=zwo rfl (.int z) z6f h
theorem z0e {K:PySem.W.Frag}{H:Hp}{Q:VK}{z:Int} (h:Q (.bl false) H):z1x K [.int z,.ty "bool"] H Q:=zwo rfl (.int z) z4q h
theorem z0y {K:PySem.W.Frag}{H:Hp}{Q:VK}{a:Addr}{vs:List V} (ha:H a=some (.lst vs)) (h:Q (.bl true) H):z1x K [.ref a,.ty "list"] H Q:=zwo rfl (.lst ha) z55 h
theorem comp_map {α:Type}{J:It}{l:List α}{kp:Hp->Prop}{rep:α->V->Hp->Hp->Prop} (O:Ov J l kp rep) {g:TG}{ti:TT}{te:TE}{k:Nat}{caps:List Nat}{σ:St}{H1:Hp}{Q:VK}
  (f:α->V) (hk:∀ H,Same H1 H->kp H) (hl:l.length<=1000000)
  (turn:∀ (i:Nat) y x H3 H4 (R:V->Hp->Prop) (R':Hp->Prop),l[i]?=some y->Same H1 H3->rep y x H3 H4->(∀ H7,Same H3 H7->R (f y) H7) ->
   g x (inner k caps σ) H4 fun σ4 H5=>(σ4.length=(inner k caps σ).length/\σ4.drop k=(inner k caps σ).drop k)/\ti σ4 H5 fun b H6=>if b=true then te σ4 H6 R else R' H6)
  (fin:∀ D H',H1 D=none->Same H1 H'->H' D=some (.lst (l.map f))->Q (.ref D) H'):zes J g ti te k caps σ Q H1 :=
 zsp O (fun _=>true) f hk (Nat.le_trans hl (by decide)) (fun i y x H3 H4 R R' e s r h1 _=>turn i y x H3 H4 R R' e s r (h1 rfl))
  fun D H' hD s d=>fin D H' hD s (by rw [d,List.filter_eq_self.mpr (fun _ _=>rfl)])
theorem zzt {a b:Int} (ha:a.natAbs<2 ^ 200) (hb:b.natAbs<2 ^ 200):IntMulOk a b:=IntMulOk.of_bits (Nat.le_trans (intBits_le ha) (by decide)) (Nat.le_trans (intBits_le hb) (by decide))
theorem all_true {α:Type} (l:List α):(l.map fun _=>true).all id=true:=by simp
end L2
namespace Lf
noncomputable def jw (row:List Int):Int->List Int->List Int->Bool
 |last,p::ps,x::xs=>decide (last<p)&&decide (p<(row.length:Int))&&decide (row.getD p.toNat 0=x)&&jw row p ps xs
 |_,_,_=>true
noncomputable def stands (row places other:List Int):Bool:=decide (places.length=other.length)&&jw row (-1) places other
noncomputable def strike:List Int->List Int->List Int
 |[],rest=>rest
 |y::ys,rest=>strike ys (match rest with|[]=>[]|x::r=>if x=y then r else x::r)
noncomputable def isLeft (row other:List Int):Bool:=(strike row.reverse other.reverse).isEmpty
theorem zpk:∀ ys:List Int,strike ys []=[]
 |[]=>rfl
 |_::ys=>by rw [strike];exact zpk ys
theorem zlp:∀ (ys rest:List Int),strike ys rest=[]↔rest.Sublist ys
 |[],rest=>by
  rw [strike];constructor
  ·intro h;rw [h];exact List.nil_sublist _
  ·intro h;exact List.sublist_nil.mp h
 |y::ys,[]=>by
  rw [strike];simp [zpk]
 |y::ys,x::r=>by
  rw [strike];by_cases h:x=y
  ·subst h;simp only [if_true];rw [zlp ys r];exact List.cons_sublist_cons.symm
  ·simp only [h,if_false];rw [zlp ys (x::r)];constructor
   ·intro q;exact q.cons y
   ·intro q;cases q with
    |cons _ q=>exact q
    |cons_cons _ q=>exact absurd rfl h
theorem isLeft_iff (row other:List Int):isLeft row other=true↔other.Sublist row:=by
 unfold isLeft;rw [List.isEmpty_iff,zlp,List.reverse_sublist]
noncomputable def zcg (places:List Int) (at':Nat):Int:=if at'=0 then 0 else places.getD (at'-1) 0+1
noncomputable def endAt (row places:List Int) (at':Nat):Int:=(places++[(row.length:Int)]).getD at' 0
noncomputable def cut (row:List Int) (b e:Int):List Int:=(row.drop b.toNat).take (e.toNat-b.toNat)
noncomputable def short (row other places:List Int):Bool :=
 decide (places.length<other.length)&&stands row places (other.take places.length) &&
 (List.range (places.length+1)).all fun i=>!((cut row (zcg places i) (endAt row places i)).contains (other.getD i 0))
end Lf
namespace Lf
noncomputable def most (code:Int):Int:=if code%4=0 then 2 else if code%4=1 then 3 else if code%4=2 then 5 else 10 ^ 30
noncomputable def z10 (cells:List Int) (code:Int):List Int:=if code/4%3=2 then cells.map fun c=>(c%most code-1)*10 ^ 30 else cells.map fun c=>c%most code
theorem z0z (code:Int):0<most code:=by unfold most;split<;>(try split)<;>(try split)<;>decide
theorem z3o (code:Int):most code<=10 ^ 30:=by unfold most;split<;>(try split)<;>(try split)<;>decide
theorem zqz (cells:List Int) (code:Int):(z10 cells code).length=cells.length:=by unfold z10;split<;>simp
end Lf
namespace Lf
theorem zho (row:List Int):∀ (ps xs:List Int) (last:Int),-1<=last->ps.length=xs.length->jw row last ps xs=true->∀ i,i<ps.length->last<ps.getD i 0/\ps.getD i 0<(row.length:Int)
 |[],_,_,_,_,_=>fun i hi=>by simp at hi
 |_::_,[],_,_,h,_=>by simp at h
 |p::ps,x::xs,last,hl,h,e=>fun i hi=>by
  rw [jw] at e;simp only [Bool.and_eq_true,decide_eq_true_eq] at e;obtain ⟨⟨⟨e1,e2⟩,e3⟩,e4⟩:=e;cases i with
  |zero=>exact ⟨e1,e2⟩
  |succ i =>
   have ih:=zho row ps xs p (by lia) (by simpa using h) e4 i (by simpa using hi);simp only [List.getD_cons_succ];lia
theorem zts {row ps xs:List Int} (h:stands row ps xs=true) (i:Nat) (hi:i<ps.length):0<=ps.getD i 0/\ps.getD i 0<(row.length:Int):=by
 unfold stands at h;simp only [Bool.and_eq_true,decide_eq_true_eq] at h;have:=zho row ps xs (-1) (by lia) h.1 h.2 i hi;lia
end Lf
namespace Lf
noncomputable def rising:Int->Int->List Int->Bool
 |_,_,[]=>true
 |ahead,count,p::ps=>decide (ahead<p)&&decide (p<count)&&rising p count ps
noncomputable def fits (row:List Int) (ps xs:List Int):Bool:=(ps.zip xs).all fun y=>decide (row.getD y.1.toNat 0=y.2)
theorem zj6 (row:List Int):∀ (ps xs:List Int) (last:Int),ps.length=xs.length->jw row last ps xs=(rising last row.length ps&&fits row ps xs)
 |[],[],_,_=>rfl
 |[],_::_,_,h=>by simp at h
 |_::_,[],_,h=>by simp at h
 |p::ps,x::xs,last,h=>by
  rw [jw,rising,zj6 row ps xs p (by simpa using h)];unfold fits;rw [List.zip_cons_cons,List.all_cons];cases decide (last<p)<;>cases decide (p<(row.length:Int))<;>cases rising p row.length ps<;>simp
theorem zzi (row ps xs:List Int) (h:ps.length=xs.length):stands row ps xs=(rising (-1) row.length ps&&fits row ps xs):=by
 unfold stands;rw [zj6 row ps xs _ h];simp [h]
theorem ze8:∀ (ps:List Int) (ahead count:Int),rising ahead count ps=true->∀ p∈ps,ahead<p/\p<count
 |[],_,_,_=>fun p hp=>by simp at hp
 |q::ps,ahead,count,h=>fun p hp=>by
  rw [rising] at h;simp only [Bool.and_eq_true,decide_eq_true_eq] at h;rcases List.mem_cons.mp hp with e|hp
  ·subst e;exact ⟨h.1.1,h.1.2⟩
  ·have:=ze8 ps q count h.2 p hp;lia
noncomputable def zh9:Int->List Int->List Int->List Int
 |i,x::row,y::other=>if x=y then i::zh9 (i+1) row other else zh9 (i+1) row (y::other)
 |_,_,_=>[]
noncomputable def yu (row other:List Int):List Int:=zh9 0 row other
theorem zj7 (i:Int) (row:List Int):zh9 i row []=[]:=by cases row<;>rfl
theorem zdv (i:Int) (other:List Int):zh9 i [] other=[]:=by cases other<;>rfl
theorem zkx:∀ (row other:List Int) (i:Int),(zh9 i row other).length<=other.length
 |[],other,i=>by rw [zdv];simp
 |x::row,[],i=>by rw [zj7];simp
 |x::row,y::other,i=>by
  rw [zh9];split
  ·have:=zkx row other (i+1);simp only [List.length_cons];lia
  ·exact zkx row (y::other) (i+1)
theorem zre:∀ (row other:List Int) (i:Int),(zh9 i row other).length=other.length↔other.Sublist row
 |[],other,i=>by
  rw [zdv,List.sublist_nil];cases other<;>simp
 |x::row,[],i=>by rw [zj7];simp
 |x::row,y::other,i=>by
  rw [zh9];by_cases h:x=y
  ·subst h;rw [if_pos rfl,List.length_cons,List.length_cons,List.cons_sublist_cons];rw [<- zre row other (i+1)];lia
  ·rw [if_neg h,zre row (y::other) (i+1)];constructor
   ·intro q;exact q.cons x
   ·intro q;cases q with
    |cons _ q=>exact q
    |cons_cons _ q=>exact absurd rfl h
end Lf
namespace Lf
theorem zjj {row other ps:List Int} (h:short row other ps=true):ps.length<other.length/\stands row ps (other.take ps.length)=true/\∀ i,i<=ps.length->other.getD i 0∉cut row (zcg ps i) (endAt row ps i):=by
 unfold short at h;simp only [Bool.and_eq_true,decide_eq_true_eq] at h;refine ⟨h.1.1,h.1.2,fun i hi=>?_⟩;have:=List.all_eq_true.mp h.2 i (List.mem_range.mpr (by lia));simpa using this
theorem zqo {l:List Int}{i:Nat} (h:i<l.length):l.drop i=l.getD i 0::l.drop (i+1):=by
 rw [List.drop_eq_getElem_cons h];congr 1
 rw [List.getD_eq_getElem?_getD];simp [h]
end Lf
namespace Lf
theorem zhc {row:List Int}{x:Int}{r:List Int}{i:Nat} (h:x::r=row.drop i):i<row.length/\row.getD i 0=x/\r=row.drop (i+1):=by
 have hi:i<row.length:=by
  rcases Nat.lt_or_ge i row.length with q|q
  ·exact q
  ·rw [List.drop_of_length_le q] at h;cases h
 rw [zqo hi] at h;obtain ⟨a,b⟩:=List.cons.inj h;exact ⟨hi,a.symm,b⟩
theorem zjp (row:List Int):∀ (r o:List Int) (i:Nat) (last:Int),r=row.drop i->last<i->jw row last (zh9 i r o) (o.take (zh9 i r o).length)=true
 |[],o,i,last,_,_=>by rw [zdv];rfl
 |x::r,[],i,last,_,_=>by rw [zj7];rfl
 |x::r,y::o,i,last,h,hl=>by
  obtain ⟨hi,hx,hr⟩:=zhc h;rw [zh9];by_cases e:x=y
  ·rw [if_pos e];have ih:=zjp row r o (i+1) (i:Int) hr (by lia);have ec:((i:Int)+1)=((i+1:Nat):Int):=by lia
   rw [ec];rw [List.length_cons,List.take_succ_cons,jw,ih];have:row.getD (i:Int).toNat 0=y:=by rw [Int.toNat_natCast,hx,e]
   rw [this];simp
   lia
  ·rw [if_neg e];have ec:((i:Int)+1)=((i+1:Nat):Int):=by lia
   rw [ec];exact zjp row r (y::o) (i+1) last hr (by lia)
theorem ztd (row:List Int):∀ (r o:List Int) (i:Nat),∀ p∈zh9 i r o,(i:Int)<=p
 |[],o,i,p,hp=>by rw [zdv] at hp;simp at hp
 |x::r,[],i,p,hp=>by rw [zj7] at hp;simp at hp
 |x::r,y::o,i,p,hp=>by
  have ec:((i:Int)+1)=((i+1:Nat):Int):=by lia
  rw [zh9,ec] at hp;split at hp
  ·rcases List.mem_cons.mp hp with rfl|hp
   ·exact Int.le_refl _
   ·have:=ztd row r o (i+1) p hp;lia
  ·have:=ztd row r (y::o) (i+1) p hp;lia
noncomputable def bAt (i:Int) (ps:List Int) (j:Nat):Int:=if j=0 then i else ps.getD (j-1) 0+1
theorem zq0 {row:List Int}{i:Nat}{e:Int} (hi:i<row.length) (he:(i:Int)<e):cut row i e=row.getD i 0::cut row ((i:Int)+1) e:=by
 unfold cut;have e1:((i:Int)+1).toNat=i+1:=by lia
 rw [e1,Int.toNat_natCast,zqo hi];have:e.toNat-i=(e.toNat-(i+1))+1:=by lia
 rw [this,List.take_succ_cons]
theorem zmr {row:List Int}{b e:Int} (h:e<=b):cut row b e=[]:=by
 unfold cut;have:e.toNat-b.toNat=0:=by lia
 rw [this];rfl
theorem zn6 (row:List Int):∀ (r o:List Int) (i:Nat),r=row.drop i->i<=row.length->∀ j,j<=(zh9 i r o).length->j<o.length->o.getD j 0∉cut row (bAt i (zh9 i r o) j) ((zh9 i r o++[(row.length:Int)]).getD j 0)
 |[],o,i,h,hi,j,hj,hjo=>by
  rw [zdv] at hj ⊢;have j0:j=0:=by simpa using hj
  subst j0;have hr:row.length<=i:=by
   rcases Nat.lt_or_ge i row.length with q|q
   ·rw [zqo q] at h;cases h
   ·exact q
  have:cut row (bAt i [] 0) (([]++[(row.length:Int)]).getD 0 0)=[]:=zmr (by show (row.length:Int)<=i;lia);rw [this];simp
 |x::r,[],i,h,hi,j,hj,hjo=>by simp at hjo
 |x::r,y::o,i,h,hi,j,hj,hjo=>by
  obtain ⟨hi',hx,hr⟩:=zhc h;have ec:((i:Int)+1)=((i+1:Nat):Int):=by lia
  by_cases e:x=y
  ·rw [zh9,if_pos e] at hj ⊢;rw [ec] at hj ⊢;cases j with
   |zero =>
    have:cut row (bAt i ((i:Int)::zh9 ((i+1:Nat):Int) r o) 0) (((i:Int)::zh9 ((i+1:Nat):Int) r o++[(row.length:Int)]).getD 0 0)=[]:=zmr (Int.le_refl _);rw [this];simp
   |succ j =>
    have ih:=zn6 row r o (i+1) hr (by lia) j (by simpa using hj) (by simpa using hjo);have b1:bAt i ((i:Int)::zh9 ((i+1:Nat):Int) r o) (j+1)=bAt ((i+1:Nat):Int) (zh9 ((i+1:Nat):Int) r o) j:=by
     unfold bAt;rw [if_neg (by lia)];cases j with
     |zero=>simp
     |succ j=>simp
    rw [b1];simpa using ih
  ·rw [zh9,if_neg e] at hj ⊢;rw [ec] at hj ⊢;have ih:=zn6 row r (y::o) (i+1) hr (by lia) j hj hjo;cases j with
   |succ j=>exact ih
   |zero =>
    have b0:bAt i (zh9 ((i+1:Nat):Int) r (y::o)) 0=i:=rfl;have b1:bAt ((i+1:Nat):Int) (zh9 ((i+1:Nat):Int) r (y::o)) 0=((i+1:Nat):Int):=rfl;rw [b1] at ih;rw [b0];have he:(i:Int)<(zh9 ((i+1:Nat):Int) r (y::o)++[(row.length:Int)]).getD 0 0:=by
     cases q:zh9 ((i+1:Nat):Int) r (y::o) with
     |nil=>simp;lia
     |cons p ps =>
      have:=ztd row r (y::o) (i+1) p (by rw [q];exact List.mem_cons_self);simp
      lia
    rw [zq0 hi' he,hx,ec];intro m;rcases List.mem_cons.mp m with q|q
    ·exact e q.symm
    ·exact ih q
theorem zoj {row other:List Int} (h:¬ (yu row other).length=other.length):short row other (yu row other)=true:=by
 have hl:(yu row other).length<other.length:=by
  have:=zkx row other 0;unfold yu at h ⊢;lia
 have s:=zjp row row other 0 (-1) (by simp) (by lia);simp only [Int.natCast_zero] at s;have c:=zn6 row row other 0 (by simp) (Nat.zero_le _);simp only [Int.natCast_zero] at c;unfold short;have e1:decide ((yu row other).length<other.length)=true:=decide_eq_true hl;have e2:stands row (yu row other) (other.take (yu row other).length)=true:=by
  unfold stands;have:(yu row other).length=(other.take (yu row other).length).length:=by rw [List.length_take];lia
  rw [decide_eq_true this];unfold yu;rw [s];rfl
 rw [e1,e2,Bool.true_and,Bool.true_and,List.all_eq_true];intro j hj;have hj:=List.mem_range.mp hj;have:=c j (by unfold yu at hj;lia) (by lia);simp only [Bool.not_eq_true',List.contains_eq_mem,decide_eq_false_iff_not];exact this
end Lf
namespace L2
open PySem PySem.Spec PyProof.Rows
section
variable {σ:St}{H H':Hp}{Q:VK}{D:Ends}{K:PySem.W.Frag}{X:Cx}
theorem zch {H2:Hp}{r:Addr}{o:HO} (s:Same H H2) (hr:H r=none):Same H (upd H2 r o):=fun b u h=>zf (s b u h) (zj h hr)
theorem zy {r q:Addr}{o:HO} (h:upd H r o q=none):H q=none:=by
 by_cases e:q=r
 ·subst e;rw [zb] at h;cases h
 ·rw [qz e] at h;exact h
theorem zuk {r q:Addr}{o:HO} (h:upd H r o q=none):q≠r:=fun e=>by subst e;rw [zb] at h;cases h
theorem zvr {H1 H2:Hp} (b:Same H1 H2) (a:Same H H1):Same H H2:=a.trans b
theorem z8k {t:TE} (v:V) (H':Hp) (h:∀ Q':VK,Q' v H'->t σ H Q') (k:Q v H'):t σ H Q:=h Q k
theorem z14 {t:TT}{R:Bool->Hp->Prop} (v:Bool) (H':Hp) (h:∀ Q':Bool->Hp->Prop,Q' v H'->t σ H Q') (k:R v H'):t σ H R:=h R k
noncomputable def z7b (K:PySem.W.Frag) (xs:List V) (H:Hp) (Q:VK):Prop:=∃ p ys,xs=[.ref p]/\(SqL K H p ys\/SqT K H p ys)/\∀ l,H l=none->Q (.ref l) (upd H l (.lst ys))
theorem zt1:zca X (.type "list") (z7b X.K):=zrx
theorem z5v {p:Addr}{ns:List Int} (hs:SqL K H p (ns.map V.int)) (h:∀ l,H l=none->Q (.ref l) (upd H l (.lst (ns.map V.int)))):z7b K [.ref p] H Q:=⟨p,_,rfl,.inl hs,h⟩
theorem z6g (h:∀ p,H p=none->Q (.ref p) (upd H p (.lst (([]:List Int).map V.int)))):z4f Q [] H:=zsg (by decide) h
theorem z4s {a:Int} (h:∀ p,H p=none->Q (.ref p) (upd H p (.lst (([a]:List Int).map V.int)))):z4f Q [.int a] H:=zsg (by simp) h
theorem z6h {a b:Int} (h:∀ p,H p=none->Q (.ref p) (upd H p (.lst (([a,b]:List Int).map V.int)))):z4f Q [.int a,.int b] H:=zsg (by simp) h
theorem z6s {l:Addr}{ns:List Int} (hl:H l=some (.lst (ns.map V.int))) (hn:ns≠[]) (h:Q (.int (ns.getLast hn)) (upd H l (.lst (ns.dropLast.map V.int)))):z7h (.ref l) [] H Q:=by
 refine ⟨l,_,.int (ns.getLast hn),rfl,rfl,hl,?_,?_⟩
 ·rw [List.length_map,List.getElem?_map,List.getLast_eq_getElem];have:ns.length-1<ns.length:=by have:=List.length_pos_iff.mpr hn;lia
  rw [List.getElem?_eq_getElem this];rfl
 ·rw [<- List.map_dropLast];exact h
theorem zda {l:Addr}{ns:List Int}{y:Int} (hl:H l=some (.lst (ns.map V.int))) (hz:ns.length<1000000) (h:Q .non (upd H l (.lst ((ns++[y]).map V.int)))):zln (.ref l) [.int y] H Q :=
 zia hl (by rw [List.length_map];exact hz) (by rw [List.map_append] at h;exact h)
theorem zw6:MtR X "list.append" zln:=zrp
theorem z59:MtR X "list.pop" z7h:=z6o
theorem zp9:MtR X "list.reverse" zql:=zwk
theorem zlr (n d:Nat) {k:Int} (h:0<=k):HT.sIx n d (some k)=min k.toNat n:=by
 obtain ⟨j,rfl⟩:∃ j:Nat,k=j:=⟨k.toNat,by lia⟩
 rw [HT.sIx_nat,Int.toNat_natCast]
theorem z2t (xs:List Int) {k:Int} (h:0<=k):zxl xs none (some k)=xs.take k.toNat:=by
 unfold zxl;rw [zlr _ _ h,HT.sIx_none,List.drop_zero,Nat.sub_zero,List.take_eq_take_iff];lia
theorem zym (xs:List Int) {k:Int} (h:0<=k):zxl xs (some k) none=xs.drop k.toNat:=by
 unfold zxl;rw [zlr _ _ h,HT.sIx_none];rw [List.take_of_length_le (by rw [List.length_drop];lia)];by_cases hk:k.toNat<=xs.length
 ·rw [Nat.min_eq_left hk]
 ·rw [Nat.min_eq_right (by lia),List.drop_of_length_le (Nat.le_refl _),List.drop_of_length_le (by lia)]
theorem z0w (xs:List Int) {b e:Int} (hb:0<=b) (he:0<=e):zxl xs (some b) (some e)=Lf.cut xs b e:=by
 unfold zxl Lf.cut;rw [zlr _ _ hb,zlr _ _ he];by_cases hk:b.toNat<=xs.length
 ·rw [Nat.min_eq_left hk,List.take_eq_take_iff,List.length_drop];lia
 ·rw [List.drop_of_length_le (by lia),List.drop_of_length_le (by lia),List.take_nil,List.take_nil]
theorem z5c {a:Addr}{ns:List Int}{k:Int} (hs:SqL K H a (ns.map V.int)) (hk:0<=k) (h:∀ p,H p=none->Q (.ref p) (upd H p (.lst ((ns.take k.toNat).map V.int)))):z1q K (.ref a) none (some k) H Q:=z0k hs (by rw [z2t _ hk];exact h)
theorem zz4 {a:Addr}{ns:List Int}{k:Int} (hs:SqL K H a (ns.map V.int)) (hk:0<=k) (h:∀ p,H p=none->Q (.ref p) (upd H p (.lst ((ns.drop k.toNat).map V.int)))):z1q K (.ref a) (some k) none H Q:=z0k hs (by rw [zym _ hk];exact h)
theorem z4a {a:Addr}{ns:List Int}{b e:Int} (hs:SqL K H a (ns.map V.int)) (hb:0<=b) (he:0<=e) (h:∀ p,H p=none->Q (.ref p) (upd H p (.lst ((Lf.cut ns b e).map V.int)))):z1q K (.ref a) (some b) (some e) H Q:=z0k hs (by rw [z0w _ hb he];exact h)
end
theorem zbf {α:Type}{J:It}{l:List α}{kp:Hp->Prop}{rep:α->V->Hp->Hp->Prop} (O:Ov J l kp rep) {g:TG}{ti:TT}{te:TE}{k:Nat}{caps:List Nat}{σ:St}{H1:Hp}{Q:VK}
  (f:α->Int) (hk:∀ H,Same H1 H->kp H) (hl:l.length<=1000000)
  (turn:∀ (i:Nat) y x H3 H4 (R:V->Hp->Prop) (R':Hp->Prop),l[i]?=some y->Same H1 H3->rep y x H3 H4->(∀ H7,Same H3 H7->R (.int (f y)) H7) ->
   g x (inner k caps σ) H4 fun σ4 H5=>(σ4.length=(inner k caps σ).length/\σ4.drop k=(inner k caps σ).drop k)/\ti σ4 H5 fun b H6=>if b=true then te σ4 H6 R else R' H6)
  (fin:∀ D H',H1 D=none->Same H1 H'->H' D=some (.lst ((l.map f).map V.int))->Q (.ref D) H'):zes J g ti te k caps σ Q H1 :=
 comp_map O (fun y=>.int (f y)) hk hl turn fun D H' hD s d=>fin D H' hD s (by rw [d,List.map_map];rfl)
theorem zfb {α:Type}{J:It}{l:List α}{kp:Hp->Prop}{rep:α->V->Hp->Hp->Prop} (O:Ov J l kp rep) {g:TG}{ti:TT}{te:TE}{k:Nat}{caps:List Nat}{σ:St}{H1:Hp}{Q:VK}
  (c:α->Bool) (f:α->Int) (hk:∀ H,Same H1 H->kp H) (hl:l.length<=1000000)
  (turn:∀ (i:Nat) y x H3 H4 (R:V->Hp->Prop) (R':Hp->Prop),l[i]?=some y->Same H1 H3->rep y x H3 H4->(c y=true->∀ H7,Same H3 H7->R (.int (f y)) H7)->(c y=false->∀ H7,Same H3 H7->R' H7) ->
   g x (inner k caps σ) H4 fun σ4 H5=>(σ4.length=(inner k caps σ).length/\σ4.drop k=(inner k caps σ).drop k)/\ti σ4 H5 fun b H6=>if b=true then te σ4 H6 R else R' H6)
  (fin:∀ D H',H1 D=none->Same H1 H'->H' D=some (.lst (((l.filter c).map f).map V.int))->Q (.ref D) H'):zes J g ti te k caps σ Q H1 :=
 zsp O c (fun y=>.int (f y)) hk (Nat.le_trans hl (by decide)) turn fun D H' hD s d=>fin D H' hD s (by rw [d,List.map_map];rfl)
section
variable {σ:St}{H H':Hp}{Q:VK}{D:Ends}{K:PySem.W.Frag}{X:Cx}
noncomputable def DP (R:Hp->Prop) (x y v:V) (H3:Hp):Prop:=∃ a H4,x=.ref a/\z0x H3 a y v H4/\R H4
theorem z6k {td ty tv:TE} (h:tv σ H fun v H1=>td σ H1 fun x H2=>ty σ H2 fun y H3=>DP (fun H4=>D.nx σ H4) x y v H3):z52 td ty tv D σ H:=h
theorem qam {R:Hp->Prop}{a:Addr}{i:Int}{v:V}{kvs:List (Key×V)} (ha:H a=some (.dK kvs)) (hl:kvs.length<1000000) (h:R (upd H a (.dK (putK kvs (.inl i) v)))):DP R (.ref a) (.int i) v H:=⟨a,_,rfl,z0x.k (k:=.inl i) ha (Nat.lt_of_lt_of_le hl (by decide)),h⟩
theorem z2v (h:∀ p,H p=none->Q (.ref p) (upd H p (.dK []))):z16 σ H Q:=h
noncomputable def z9o (i j:Nat) (σ:St) (D:Ends) (vs:List V) (H1:Hp):Prop:=∃ v w,vs=[v,w]/\D.nx ((σ.set i (some v)).set j (some w)) H1
theorem z8y {i j:Nat}{ta:TA} (h:ta σ H fun vs H1=>z9o i j σ D vs H1):z9j i j ta D σ H:=h
end
end L2
namespace Lf
theorem za5 {α:Type} [DecidableEq α]:∀ (l m:List α),l.Nodup->(∀ a∈l,a∈m)->l.length<=m.length
 |[],m,_,_=>by simp
 |a::l,m,hn,hs=>by
  have hn':=List.nodup_cons.mp hn;have ham:=hs a List.mem_cons_self;have:=za5 l (m.erase a) hn'.2 fun b hb=>by
   have hne:b≠a:=fun e=>hn'.1 (e▸hb);exact (List.mem_erase_of_ne hne).mpr (hs b (List.mem_cons_of_mem _ hb))
  rw [List.length_erase_of_mem ham] at this;have:0<m.length:=List.length_pos_of_mem ham;simp;lia
theorem zii {α:Type} [DecidableEq α] {l m:List α} (h1:l.Nodup) (h2:m.Nodup) (h:∀ a,a∈l↔a∈m):l.length=m.length :=
 Nat.le_antisymm (za5 l m h1 fun a ha=>(h a).mp ha) (za5 m l h2 fun a ha=>(h a).mpr ha)
end Lf
namespace L2
open PySem PySem.Spec PyProof.Rows
section
variable {σ:St}{H H':Hp}{Q:VK}{D:Ends}{K:PySem.W.Frag}{X:Cx}
theorem zxi {q p:Addr}{u o:HO} (hp:H p=none) (h:H q=some u):upd H p o q=some u:=zu h hp
theorem ztx {q p:Addr}{u o:HO} (hne:q≠p) (h:H q=some u):upd H p o q=some u:=zf h hne
theorem z05 {q p:Addr}{xs:List V}{o:HO} (hp:H p=none) (h:SqL K H q xs):SqL K (upd H p o) q xs:=z21 h hp
theorem zvc {q p:Addr}{xs:List V}{o:HO} (hne:q≠p) (h:SqL K H q xs):SqL K (upd H p o) q xs:=zy6 h hne
theorem z3x {x dx q:Addr}{o o' u:HO} (hx:H x=none) (hdx:H dx=none) (h:H q=some u):upd (upd H dx o') x o q=some u:=zf (zu h hdx) (zj h hx)
theorem z26 {l:Addr} (h:H' l=none) (e:Same H H'):H l=none:=e.free h
noncomputable abbrev dL (xss:List (List Int)):PyData:=.list (xss.map dI)
theorem zrz:∀ xss yss:List (List Int),PyData.eqvAll (xss.map dI) (yss.map dI)=decide (xss=yss)
 |[],[]=>by simp [PyData.eqvAll]
 |[],_::_=>by simp [PyData.eqvAll]
 |_::_,[]=>by simp [PyData.eqvAll]
 |a::r,b::t=>by
  rw [List.map_cons,List.map_cons,PyData.eqvAll,zrz r t,zxy];by_cases h:a=b<;>by_cases h':r=t<;>simp [h,h']
theorem z6c (xss yss:List (List Int)):PyData.eqv (dL xss) (dL yss)=decide (xss=yss):=by rw [PyData.eqv];exact zrz xss yss
theorem zjy:∀ xss:List (List Int),PyData.canLayAll0 (xss.map dI)=true/\PyData.depthAll (xss.map dI)<=8
 |[]=>by simp [PyData.canLayAll0,PyData.depthAll]
 |a::r=>by
  obtain ⟨h1,h2⟩:=zjy r;have h3:=zhb a;have h4:PyData.depth (dI a)<=8:=by simp [PyData.depth,PySem.W.ke_depthAll]
  have h5:=SeqAt.canLay_of_shaped h3;rw [List.map_cons];refine ⟨?_,?_⟩
  ·rw [PyData.canLayAll0,h5,h1];rfl
  ·rw [PyData.depthAll];lia
theorem zm8 (xss:List (List Int)):SeqAt.shaped (dL xss)=true:=by
 obtain ⟨h1,h2⟩:=zjy xss;unfold SeqAt.shaped;rw [PyData.canLay0,h1,PyData.depth];simp
 lia
theorem RdV.two {a p q:Addr}{xs ys:List Int} (h:SqL K H a [.ref p,.ref q]) (h1:SqL K H p (xs.map V.int)) (h2:SqL K H q (ys.map V.int)):RdV K H (.ref a) (dL [xs,ys]):=.lst h (.cons (RdV.ints h1) (.cons (RdV.ints h2) .nil))
theorem z4x {a b p q p' q':Addr}{xs ys xs' ys':List Int} (h:SqL K H a [.ref p,.ref q]) (h1:SqL K H p (xs.map V.int)) (h2:SqL K H q (ys.map V.int)) (h':SqL K H b [.ref p',.ref q']) (h1':SqL K H p' (xs'.map V.int)) (h2':SqL K H q' (ys'.map V.int))
  (hq:Q (.bl (!decide ([xs,ys]=[xs',ys']))) H):rNe (.ref a) (.ref b) H Q\/zt0 K true (.ref a) (.ref b) H Q :=
 .inr ⟨_,_,RdV.two h h1 h2,RdV.two h' h1' h2',zm8 _,zm8 _,by rw [if_pos rfl,z6c];exact hq⟩
theorem z4r {a b c:Int} (h:∀ p,H p=none->Q (.ref p) (upd H p (.lst (([a,b,c]:List Int).map V.int)))):z4f Q [.int a,.int b,.int c] H:=zsg (by simp) h
noncomputable def z9k (K:PySem.W.Frag) (xs:List V) (H:Hp) (Q:VK):Prop:=∃ (p:Addr) (ns:List Int),xs=[.ref p]/\SqL K H p (ns.map V.int)/\Q (.int ns.sum) H
theorem zkj (hc:X.calm=true):zca X (.builtin "sum") (z9k X.K):=zzd hc
theorem z2z {p:Addr}{xs:List V}{i:Int}{v:V} (hs:SqL K H p xs) (e:atI xs i=some v) (h:Q v H):zuy K (.ref p) (.int i) H Q:=z0j hs e h
theorem z8m {p:Addr}{ns:List Int} (hs:SqL K H p (ns.map V.int)) (h:Q (.int ns.sum) H):z9k K [.ref p] H Q:=⟨p,ns,rfl,hs,h⟩
structure Ins (K:PySem.W.Frag) (C:Addr):Prop where
 cl:Cls K C
 ha:PySem.W.findIn K (.ref C) "__class__"=some (some (.builtin "object.__class__"))
 hn:PySem.W.specialIn K (.builtin "object.__class__") "__get__"=some (some (.builtin "getset_descriptor.__get__"))
 htk:PySem.W.takesIn K (.builtin "object.__class__")=some true
 hm:PySem.W.mroIn K C (.type "object")=some true
theorem zx0 {x C D' dx:Addr}{fs:List (Str×V)}{b:Bool} (ha:H x=some (.ins C dx fs)) (i:Ins K C) (hk:PySem.W.kitOne K (.ref C) (.ref D')=some b) (h:Q (.bl b) H):z1x K [.ref x,.ref D'] H Q:=zwo rfl (.ins ha i.cl i.ha i.hn i.htk i.hm) hk h
noncomputable def AtF (K:PySem.W.Frag) (f:Str) (Q:VK) (x:V) (H1:Hp):Prop:=∃ a C dx fs v,x=.ref a/\H1 a=some (.ins C dx fs)/\Cls K C/\jb K C f/\fs.lookup f=some v/\Q v H1
theorem z8n {ta:TE}{f:Str} (h:ta σ H fun x H1=>AtF K f Q x H1):z9q K ta f σ H Q:=h
theorem z7j {a C dx:Addr}{fs:List (Str×V)}{f:Str}{v:V} (ha:H a=some (.ins C dx fs)) (i:Ins K C) (n:jb K C f) (l:fs.lookup f=some v) (h:Q v H):AtF K f Q (.ref a) H:=⟨a,C,dx,fs,v,rfl,ha,i.cl,n,l,h⟩
noncomputable def z9t (K:PySem.W.Frag) (f:Str) (R:Hp->Prop) (y x:V) (H2:Hp):Prop:=∃ a C dx fs,x=.ref a/\H2 a=some (.ins C dx fs)/\Cls K C/\jb K C f/\fs.length<1000/\R (upd H2 a (.ins C dx (zbh f y fs)))
theorem z6n {ta tv:TE}{f:Str} (h:tv σ H fun y H1=>ta σ H1 fun x H2=>z9t K f (fun H3=>D.nx σ H3) y x H2):z9y K ta tv f D σ H:=h
theorem z63 {a C dx:Addr}{fs:List (Str×V)}{f:Str}{y:V}{R:Hp->Prop} (ha:H a=some (.ins C dx fs)) (i:Ins K C) (n:jb K C f) (l:fs.length<1000) (h:R (upd H a (.ins C dx (zbh f y fs)))):z9t K f R y (.ref a) H:=⟨a,C,dx,fs,rfl,ha,i.cl,n,l,h⟩
noncomputable def z9z (C:Addr) (m:Str) (x:V) (H1:Hp) (R:Prop):Prop:=∃ a dx fs,x=.ref a/\H1 a=some (.ins C dx fs)/\fs.lookup m=none/\R
theorem z1k {C:Addr}{m:Str}{sp:Sp}{dvs:List V}{E:XK}{ta:TE}{t:TA} (h:ta σ H fun x H1=>z9z C m x H1 (t σ H1 fun vs H2=>sp (x::(vs++dvs)) H2 Q E)):z3t C m sp dvs E ta t σ H Q:=h
theorem z1y {C a dx:Addr}{m:Str}{fs:List (Str×V)}{R:Prop} (ha:H a=some (.ins C dx fs)) (l:fs.lookup m=none) (h:R):z9z C m (.ref a) H R:=⟨a,dx,fs,rfl,ha,l,h⟩
theorem z4w {C:Addr}{sp:Sp}{dvs:List V}{E:XK}{t:TA} (h:t σ H fun vs H1=>∀ x dx,H1 x=none->H1 dx=none->dx≠x ->
  sp (.ref x::(vs++dvs)) (upd (upd H1 dx (.own x)) x (.ins C dx [])) (fun v H2=>v=.non/\Q (.ref x) H2) E):z3y C sp dvs E t σ H Q:=h
noncomputable def tEi (t u:TE):TE:=fun σ H Q=>t σ H Q\/u σ H Q
theorem z6a {e:Expr}{t u:TE} (h:PE X e t) (h':PE X e u):PE X e (tEi t u):=z5m h h'
theorem z7n {t u:TE} (h:t σ H Q):tEi t u σ H Q:=.inl h
theorem z7q {t u:TE} (h:u σ H Q):tEi t u σ H Q:=.inr h
theorem zhw {l b:Addr}{xs ys:List V} (h1:H l=some (.lst xs)) (h2:H b=some (.lst ys)) (hz:xs.length+ys.length<=1000000) (h:∀ p,H p=none->Q (.ref p) (upd H p (.lst (xs++ys)))):z0h (.ref l) (.ref b) H Q:=.inr ⟨l,b,_,_,rfl,rfl,h1,h2,Nat.le_trans hz (by decide),h⟩
noncomputable def z89 (K:PySem.W.Frag) (xs:List V) (H:Hp) (Q:VK):Prop:=∃ (p:Addr) (bs:List Bool),xs=[.ref p]/\SqL K H p (bs.map V.bl)/\Q (.bl (bs.any id)) H
noncomputable def z8h (K:PySem.W.Frag) (xs:List V) (H:Hp) (Q:VK):Prop:=∃ (p:Addr) (bs:List Bool),xs=[.ref p]/\SqL K H p (bs.map V.bl)/\Q (.bl (bs.all id)) H
theorem zsv (hc:X.calm=true):zca X (.builtin "any") (z89 X.K):=zz2 hc
theorem zbx (hc:X.calm=true):zca X (.builtin "all") (z8h X.K):=z0r hc
theorem z1t {α:Type}{p:Addr}{l:List α}{g:α->V} (hs:SqL K H p (l.map g)) (hg:∀ x∈l,g x=.bl true) (h:Q (.bl true) H):z8h K [.ref p] H Q:=by
 refine ⟨p,l.map (fun _=>true),rfl,?_,?_⟩
 ·have e:l.map g=(l.map (fun _=>true)).map V.bl:=by
   rw [List.map_map];exact List.map_congr_left hg
  rw [<- e];exact hs
 ·rw [all_true];exact h
theorem z5d {α:Type} [DecidableEq α] {x:α}{A B:Prop} (h:B):if (!decide (x=x))=true then A else B:=by rw [decide_eq_true rfl];exact h
end
end L2
namespace Lf
noncomputable def tg (tb:List (List Int)) (i j:Nat):Int:=(tb.getD i []).getD j 0
structure TabAt (one other:List Int) (tb:List (List Int)) (i j:Nat):Prop where
 up:0<i->tg tb (i-1) j<=tg tb i j
 lf:0<j->tg tb i (j-1)<=tg tb i j
 dg:0<i->0<j->one.getD (i-1) 0=other.getD (j-1) 0->tg tb (i-1) (j-1)<tg tb i j
structure TabOk (one other:List Int) (tb:List (List Int)):Prop where
 len:tb.length=one.length+1
 first:0<=tg tb 0 0
 lens:∀ i,i<=one.length->(tb.getD i []).length=other.length+1
 all:∀ i j,i<=one.length->j<=other.length->TabAt one other tb i j
noncomputable def tab (one other:List Int) (tb:List (List Int)):Bool:=@decide (TabOk one other tb) (Classical.propDecidable _)
theorem zj9 {one other:List Int}{tb:List (List Int)} (h:TabOk one other tb):tab one other tb=true:=by
 unfold tab;exact @decide_eq_true _ (Classical.propDecidable _) h
theorem zoa {one other:List Int}{tb:List (List Int)} (h:¬ TabOk one other tb):tab one other tb=false:=by
 unfold tab;exact @decide_eq_false _ (Classical.propDecidable _) h
theorem znl {one other:List Int}{tb:List (List Int)}:tab one other tb=true↔TabOk one other tb:=by
 refine ⟨fun h=>?_,zj9⟩;rcases Classical.em (TabOk one other tb) with q|q
 ·exact q
 ·rw [zoa q] at h;cases h
end Lf
namespace Lf
noncomputable def zqy (tb:List (List Int)):Int:=(tb.getD (tb.length-1) []).getD ((tb.getD (tb.length-1) []).length-1) 0
noncomputable def inside (n:Nat) (ps:List Int):Bool:=!(ps.any fun p=>!(decide (0<=p)&&decide (p<(n:Int))))
theorem zvw {n:Nat}{ps:List Int} (h:inside n ps=true):∀ p∈ps,0<=p/\p<(n:Int):=by
 intro p hp;unfold inside at h;simp only [Bool.not_eq_true',List.any_eq_false] at h;have:=h p hp;simpa using this
noncomputable def picks (row ps:List Int):List Int:=ps.map fun p=>row.getD p.toNat 0
end Lf
namespace Lf
noncomputable def long (one other mine theirs:List Int) (tb:List (List Int)):Bool :=
 inside one.length mine&&tab one other tb&&stands one mine (picks one mine)&&stands other theirs (picks one mine)&&decide (zqy tb=(mine.length:Int))
theorem zk8 {one other:List Int}{tb:List (List Int)} (T:TabOk one other tb):∀ (n i j:Nat),i+j=n->i<=one.length->j<=other.length->0<=tg tb i j
 |0,i,j,h,_,_=>by
  have:i=0:=by lia
  have:j=0:=by lia
  subst_vars
  exact T.first
 |n+1,i,j,h,hi,hj=>by
  by_cases h0:0<i
  ·have:=(T.all i j hi hj).up h0;have:=zk8 T n (i-1) j (by lia) (by lia) hj;lia
  ·have:=(T.all i j hi hj).lf (by lia);have:=zk8 T n i (j-1) (by lia) hi (by lia);lia
theorem zv1 {one other mine theirs:List Int}{tb:List (List Int)} (h:long one other mine theirs tb=true):inside one.length mine=true/\TabOk one other tb/\stands one mine (picks one mine)=true/\stands other theirs (picks one mine)=true/\zqy tb=(mine.length:Int):=by
 unfold long at h;simp only [Bool.and_eq_true,decide_eq_true_eq] at h;exact ⟨h.1.1.1.1,znl.mp h.1.1.1.2,h.1.1.2,h.1.2,h.2⟩
theorem zle:∀ (qs:List Int) (b m:Int),rising b m qs=true->(qs.length:Int)<=max 0 (m-1-b)
 |[],b,m,_=>by simp only [List.length_nil];lia
 |q::qs,b,m,hq=>by
  rw [rising] at hq;simp only [Bool.and_eq_true,decide_eq_true_eq] at hq;have:=zle qs q m hq.2;simp only [List.length_cons];lia
theorem zvb {α:Type}{l:List α}{i:Nat}{x d:α} (h:i<l.length):(l.set i x).getD i d=x:=by
 rw [List.getD_eq_getElem?_getD];simp [h]
noncomputable def both (one other row mine theirs:List Int) (tb:List (List Int)):Bool :=
 stands row mine one&&stands row theirs other&&tab one other tb&&decide ((row.length:Int)+zqy tb=(one.length:Int)+other.length)
end Lf
namespace L2
open PySem PySem.Spec PyProof.Rows
structure Tab (H:Hp) (t:Addr) (ls:List Addr) (tb:List (List Int)):Prop where
 at_:H t=some (.lst (ls.map V.ref))
 len:ls.length=tb.length
 row:∀ (i:Nat) (l:Addr),ls[i]?=some l->H l=some (.lst ((tb.getD i []).map V.int))
section
variable {σ:St}{H H':Hp}{Q:VK}{D:Ends}{K:PySem.W.Frag}{X:Cx}
theorem Tab.same {t:Addr}{ls:List Addr}{tb:List (List Int)} (T:Tab H t ls tb) (s:Same H H'):Tab H' t ls tb:=⟨s.at T.at_,T.len,fun i l h=>s.at (T.row i l h)⟩
theorem zrj {t:Addr}{ls:List Addr}{tb:List (List Int)} (T:Tab H t ls tb) (h:Q (.int tb.length) H):zsd K [.ref t] H Q:=zx6 (SqL.of T.at_) (by rw [List.length_map,T.len];exact h)
theorem ut {t:Addr}{ls:List Addr}{tb:List (List Int)}{i:Int} (T:Tab H t ls tb) (h0:0<=i) (h1:i<tb.length) (h:∀ l,ls[i.toNat]?=some l->H l=some (.lst ((tb.getD i.toNat []).map V.int))->Q (.ref l) H):zuy K (.ref t) (.int i) H Q:=by
 obtain ⟨n,rfl⟩:∃ n:Nat,i=n:=⟨i.toNat,by lia⟩
 rw [Int.toNat_natCast] at h;have hl:n<ls.length:=by rw [T.len];lia
 obtain ⟨l,e⟩:∃ l,ls[n]?=some l:=⟨ls[n],by simp [hl]⟩
 refine z0j (SqL.of T.at_) (v:=.ref l) (zua ?_) (h l e (T.row n l e));rw [List.getElem?_map,e];rfl
theorem zfz {t:Addr}{ls:List Addr}{tb:List (List Int)} (T:Tab H t ls tb) (h1:0<tb.length) (h:∀ l,ls[tb.length-1]?=some l->H l=some (.lst ((tb.getD (tb.length-1) []).map V.int))->Q (.ref l) H):zuy K (.ref t) (.int (-1)) H Q:=by
 have hl:tb.length-1<ls.length:=by rw [T.len];lia
 obtain ⟨l,e⟩:∃ l,ls[tb.length-1]?=some l:=⟨ls[tb.length-1],by simp [hl]⟩
 have hne:ls≠[]:=fun z=>by rw [z] at hl;simp at hl
 have e2:ls.getLast hne=l:=by
  rw [List.getLast_eq_getElem];have:=List.getElem?_eq_some_iff.mp e;obtain ⟨_,q⟩:=this;rw [<- q];congr 1
  rw [T.len]
 refine z0j (SqL.of T.at_) (v:=.ref l) ?_ (h l e (T.row _ l e));have e3:ls.map V.ref=(ls.dropLast).map V.ref++[.ref l]:=by
  conv=>lhs;rw [<- List.dropLast_concat_getLast hne,e2]
  rw [List.map_append];rfl
 rw [e3];exact zuq _ _
theorem zjb {tb:List (List Int)}{i j:Nat}:(tb.getD i []).getD j 0=Lf.tg tb i j:=rfl
theorem zrt {ns:List Int} (h:ns≠[]):ns.getLast h=ns.getD (ns.length-1) 0:=by
 rw [List.getLast_eq_getElem,List.getD_eq_getElem?_getD];have:ns.length-1<ns.length:=by have:=List.length_pos_iff.mpr h;lia
 simp [this]
theorem zhy {p:Addr}{ns:List Int} (hs:SqL K H p (ns.map V.int)) (hn:0<ns.length) (h:Q (.int (ns.getD (ns.length-1) 0)) H):zuy K (.ref p) (.int (-1)) H Q :=
 zuu hs (List.length_pos_iff.mp hn) (by rw [zrt];exact h)
theorem z2e {α:Type}{p:Addr}{l:List α}{g:α->Bool} (hs:SqL K H p (l.map fun x=>V.bl (g x))) (h:Q (.bl (l.any g)) H):z89 K [.ref p] H Q:=by
 refine ⟨p,l.map g,rfl,?_,?_⟩
 ·rw [List.map_map];exact hs
 ·rw [List.any_map];exact h
theorem zoy {α:Type}{p:Addr}{l:List α}{g:α->Bool} (hs:SqL K H p (l.map fun x=>V.bl (g x))) (h:Q (.bl (l.all g)) H):z8h K [.ref p] H Q:=by
 refine ⟨p,l.map g,rfl,?_,?_⟩
 ·rw [List.map_map];exact hs
 ·rw [List.all_map];exact h
theorem zt7 {α:Type}{l:List α}{i:Nat}{x d:α} (h:i<l.length):(l.set i x).getD i d=x:=by
 rw [List.getD_eq_getElem?_getD];simp [h]
theorem zs8 {α:Type}{l:List α}{i k:Nat}{x d:α} (h:i≠k):(l.set i x).getD k d=l.getD k d:=by
 rw [List.getD_eq_getElem?_getD,List.getD_eq_getElem?_getD];simp [h]
theorem z0s {ls:List Addr} (nd:ls.Nodup) {i k:Nat}{l l':Addr} (hi:ls[i]?=some l) (hk:ls[k]?=some l') (h:k≠i):l'≠l:=by
 intro e;subst e;exact h ((List.getElem?_inj (List.getElem?_eq_some_iff.mp hk).1 nd).mp (hk.trans hi.symm))
theorem Tab.set {t l:Addr}{ls:List Addr}{tb:List (List Int)}{i:Nat}{line:List Int} (T:Tab H t ls tb) (nd:ls.Nodup) (hl:ls[i]?=some l) (tl:t≠l):Tab (upd H l (.lst (line.map V.int))) t ls (tb.set i line):=by
 have hi:i<tb.length:=by rw [<- T.len];exact (List.getElem?_eq_some_iff.mp hl).1
 refine ⟨zf T.at_ tl,by rw [List.length_set];exact T.len,fun k l' hk=>?_⟩;by_cases e:k=i
 ·subst e;rw [hl] at hk;cases hk
  rw [zb,zt7 hi]
 ·rw [qz (z0s nd hl hk e),zs8 (fun z=>e z.symm)];exact T.row k l' hk
theorem z42 {to ti:TE}{t:z67}{v:V}{R:St->Hp->Prop} (h:to σ H fun o H1=>ti σ H1 fun i H2=>t o i v H2 fun H3=>R σ H3):z9a to ti t v σ H R:=h
theorem zyx {l:Addr}{ns:List Int}{i v:Int}{R:Hp->Prop} (hl:H l=some (.lst (ns.map V.int))) (h0:0<=i) (h1:i<ns.length) (h:R (upd H l (.lst ((ns.set i.toNat v).map V.int)))):z2y (.ref l) (.int i) (.int v) H R:=by
 refine ⟨l,_,_,i.toNat,rfl,rfl,hl,?_,?_⟩
 ·rw [List.length_map];unfold ixN;rw [if_pos h0,if_pos h1]
 ·rw [<- List.map_set];exact h
theorem zyc (xs:List Int):zxl xs none (some (-1))=xs.dropLast:=by
 unfold zxl;rw [HT.sIx_none,List.drop_zero,Nat.sub_zero];have:HT.sIx xs.length xs.length (some (-1))=xs.length-1:=by
  show (if (-1:Int)<0 then ((-1:Int)+(xs.length:Int)).toNat else min (-1:Int).toNat xs.length)=_
  rw [if_pos (by decide)];lia
 rw [this,List.dropLast_eq_take]
theorem z07 {a:Addr}{ns:List Int} (hs:SqL K H a (ns.map V.int)) (h:∀ p,H p=none->Q (.ref p) (upd H p (.lst (ns.dropLast.map V.int)))):z1q K (.ref a) none (some (-1)) H Q:=z0k hs (by rw [zyc];exact h)
end
section
variable {X:Cx}{σ:St}{H:Hp}{Q:VK}
noncomputable def LR (Q:VK) (i n:Int) (H1:Hp):Prop:=i<=2 ^ 20/\n<=2 ^ 20/\-(2 ^ 20)<=n/\-(2 ^ 20)<=i/\∀ l,H1 l=none->Q (.ref l) (upd H1 l (.lst (((List.range (n-i).toNat).map fun k:Nat=>i+(k:Int)).map V.int)))
noncomputable def z9e (ta:TA):TE:=fun σ H Q=>ta σ H fun vs H1=>∃ j:Int,vs=[.int j]/\LR Q 0 j H1
theorem zo4:∀ (ns:List Int) (us:List Value),us.length=ns.length->(∀ j v,us[j]?=some v->∃ t,v=Value.int (ns.getD j 0) t)->Vals (ns.map V.int) us
 |[],[],_,_=>.nil
 |[],_::_,h,_=>by simp at h
 |_::_,[],h,_=>by simp at h
 |n::ns,u::us,h,f=>.cons (f 0 u rfl) (zo4 ns us (by simpa using h) fun j v e=>f (j+1) v e)
theorem zwj {n:Nat}{a:Int}{acc:Array Value} (h:ItemsOf (fun i v=>∃ t,v=Value.int (a+i*1) t) acc n):Vals (((List.range n).map fun k:Nat=>a+(k:Int)).map V.int) acc.toList:=by
 refine zo4 _ _ (by simp [h.1]) fun j v e=>?_;have e':acc[j]?=some v:=by simpa using e
 obtain ⟨t,rfl⟩:=h.2 j v e';have hj:j<n:=by
  have:=(Array.getElem?_eq_some_iff.mp e').1;rw [h.1] at this;exact this
 refine ⟨t,?_⟩;congr 1
 rw [List.getD_eq_getElem?_getD,List.getElem?_map,List.getElem?_range hj];show a+(j:Int)*1=a+(j:Int)
 lia
theorem list_range {pins:List (Addr×Obj)}{s:Shared}{lo hi:Int}{t u v:Tok}{tk:Nat} (hc:X.calm=true) (I:Inv X pins σ H s) (q:LR Q lo hi H) :
  wpAny (model X.prog X.w) X.A (call (.type "list") [.ref s.heap.objs.size]) (EP X pins σ Q) X.xe { s with heap:=s.heap.push { cls:=.type "range",data:=.fields #[.int lo t,.int hi u,.int 1 v] },toks:=tk }:=by
 obtain ⟨h1,h2,h3,h4,q⟩:=q;have I1:Inv X pins σ H { s with heap:=s.heap.push { cls:=.type "range",data:=.fields #[.int lo t,.int hi u,.int 1 v] },toks:=tk }:=I.kept fun b o e=>Heap.get?_push_of_some _ e;refine call_list_range (n:=(hi-lo).toNat) (I.ok.hd hc) (IsRange.new ..) (small_one (by lia) (by lia) (by lia) (by lia)) (by rw [rangeSize_one];split<;>lia) (by lia) fun h' tk' acc c hk hS hI=>?_;refine ⟨.ref _,_,?_,rfl,q _ (I1.hok.fresh (Nat.le_refl _))⟩;refine I1.laid (fun b u e=>hk b u e) (Nat.le_refl _) ⟨?_,acc.toList,c,zwj hI,by rw [Array.toArray_toList];exact hS⟩;rw [List.length_map,List.length_map,List.length_range];refine Nat.le_trans ?_ (by decide:2 ^ 22<=sizeLine);lia
theorem zgc {a:Expr}{ta:TA}{p p' pos pos':Pos} (hc:X.calm=true) (hg:Gl X "list") (hm:X.mg "list"=none) (hg':Gl X "range") (hm':X.mg "range"=none) (ha:PA X [a] ta) (hs:starEach [a] X.env=[(false,eval a X.env)]:=by rfl)
  (hs2:starEach [.Call (.Name "range" p') [a] [] pos'] X.env=[(false,eval (.Call (.Name "range" p') [a] [] pos') X.env)]:=by rfl):PE X (.Call (.Name "list" p) [.Call (.Name "range" p') [a] [] pos'] [] pos) (z9e ta):=by
 intro pins s σ H Q I h;refine wpAny_Call_Name_kw (ziy I hg hm boot_list ?_);refine PyProof.Rows.callWith_type1 ?_ hs2 rfl;rw [hs2];show wpAny _ _ (spliced ((false,eval (.Call (.Name "range" p') [a] [] pos') X.env)::[])) _ _ s
 refine Calls.spliced_cons ?_;refine Call_ (ziy I hg' hm' boot_range (PyProof.Rows.callWith_type1 (thn (ha pos' pins s σ H _ I h) fun us s1 ⟨vs,H1,I1,r1,q1⟩=>?_) hs rfl));obtain ⟨j,e,q⟩:=q1;subst e;cases r1 with
 |cons r rr =>
  cases rr
  obtain ⟨t,rfl⟩:=r;refine call_range_1 (Calls.spliced_nil ?_);exact list_range hc I1 q
noncomputable def z9d (ta:TA):TE:=fun σ H Q=>ta σ H fun vs H1=>∃ i j:Int,vs=[.int i,.int j]/\LR Q i j H1
theorem zq5 {a b:Expr}{ta:TA}{p p' pos pos':Pos} (hc:X.calm=true) (hg:Gl X "list") (hm:X.mg "list"=none) (hg':Gl X "range") (hm':X.mg "range"=none) (ha:PA X [a,b] ta) (hs:starEach [a,b] X.env=[(false,eval a X.env),(false,eval b X.env)]:=by rfl) (hs1:starEach [b] X.env=[(false,eval b X.env)]:=by rfl)
  (hs2:starEach [.Call (.Name "range" p') [a,b] [] pos'] X.env=[(false,eval (.Call (.Name "range" p') [a,b] [] pos') X.env)]:=by rfl):PE X (.Call (.Name "list" p) [.Call (.Name "range" p') [a,b] [] pos'] [] pos) (z9d ta):=by
 intro pins s σ H Q I h;refine wpAny_Call_Name_kw (ziy I hg hm boot_list ?_);refine PyProof.Rows.callWith_type1 ?_ hs2 rfl;rw [hs2];show wpAny _ _ (spliced ((false,eval (.Call (.Name "range" p') [a,b] [] pos') X.env)::[])) _ _ s
 refine Calls.spliced_cons ?_;refine Call_ (ziy I hg' hm' boot_range (PyProof.Rows.callWith_type1 (thn (ha pos' pins s σ H _ I h) fun us s1 ⟨vs,H1,I1,r1,q1⟩=>?_) (by rw [hs,hs1]) (by rw [hs1];rfl)));obtain ⟨i,j,e,q⟩:=q1;subst e;cases r1 with
 |cons r rr =>
  cases rr with
  |cons r' rr =>
   cases rr
   obtain ⟨t,rfl⟩:=r;obtain ⟨t',rfl⟩:=r';refine call_range_2 (Calls.spliced_nil ?_);exact list_range hc I1 q
noncomputable def LR1 (Q:VK) (vs:List V) (H1:Hp):Prop:=∃ j:Int,vs=[.int j]/\LR Q 0 j H1
noncomputable def LR2 (Q:VK) (vs:List V) (H1:Hp):Prop:=∃ i j:Int,vs=[.int i,.int j]/\LR Q i j H1
theorem z7v {ta:TA} (h:ta σ H fun vs H1=>LR1 Q vs H1):z9e ta σ H Q:=h
theorem z7z {ta:TA} (h:ta σ H fun vs H1=>LR2 Q vs H1):z9d ta σ H Q:=h
theorem z4b {n:Nat} (hn:n<=100000) (h:∀ l,H l=none->Q (.ref l) (upd H l (.lst (((List.range n).map fun k:Nat=>(k:Int)).map V.int)))):LR1 Q [.int (n:Int)] H:=by
 refine ⟨n,rfl,by lia,by lia,by lia,by lia,fun l hl=>?_⟩;have e:((List.range ((n:Int)-0).toNat).map fun k:Nat=>(0:Int)+(k:Int))=(List.range n).map fun k:Nat=>(k:Int):=by
  have:((n:Int)-0).toNat=n:=by lia
  rw [this];exact List.map_congr_left fun k _=>by lia
 rw [e];exact h l hl
end
end L2
namespace Lf
noncomputable def others (row ps:List Int):List Int:=(row.zipIdx.filter fun y=>!decide ((y.2:Int)∈ps)).map fun y=>y.1
noncomputable def mixed (row one other ps:List Int):Bool:=stands row ps one&&decide (others row ps=other)
structure z5u (row one other:List Int) (ps:List (Int×Int)) (i j:Int):Prop where
 i0:0<=i
 i1:i<=(one.length:Int)
 j0:0<=j
 j1:j<=(other.length:Int)
 nx:i<(one.length:Int)->one.getD i.toNat 0=row.getD (i+j).toNat 0->(i+1,j)∈ps
 ny:j<(other.length:Int)->other.getD j.toNat 0=row.getD (i+j).toNat 0->(i,j+1)∈ps
structure z4e (row one other:List Int) (ps:List (Int×Int)):Prop where
 len:row.length=one.length+other.length
 first:((0,0):Int×Int)∈ps
 last:((one.length:Int),(other.length:Int))∉ps
 all:∀ p∈ps,z5u row one other ps p.1 p.2
noncomputable def zc0 (row one other:List Int) (ps:List (Int×Int)):Bool:=@decide (z4e row one other ps) (Classical.propDecidable _)
theorem zg5 {row one other:List Int}{ps:List (Int×Int)} (h:z4e row one other ps):zc0 row one other ps=true:=by
 unfold zc0;exact @decide_eq_true _ (Classical.propDecidable _) h
theorem za3 {row one other:List Int}{ps:List (Int×Int)} (h:¬ z4e row one other ps):zc0 row one other ps=false:=by
 unfold zc0;exact @decide_eq_false _ (Classical.propDecidable _) h
end Lf
namespace L2
open PySem PySem.Spec PyProof.Rows
noncomputable abbrev dP (p:Int×Int):PyData:=.tuple [.int p.1,.int p.2]
theorem z2f (p q:Int×Int):PyData.eqv (dP p) (dP q)=decide (p=q):=by
 obtain ⟨a,b⟩:=p;obtain ⟨c,d⟩:=q;rw [PyData.eqv];simp only [PyData.eqvAll,PyData.eqv];by_cases h1:a=c<;>by_cases h2:b=d<;>simp [h1,h2]
theorem zyz (p:Int×Int):∀ ps:List (Int×Int),((ps.map dP).any fun e=>PyData.eqv e (dP p))=decide (p∈ps)
 |[]=>by simp
 |q::r=>by
  rw [List.map_cons,List.any_cons,zyz p r,z2f];by_cases h1:q=p
  ·subst h1;simp
  ·have h2:¬ p=q:=fun z=>h1 z.symm;simp [h1,h2]
theorem zx4:∀ ps:List (Int×Int),PyData.canLayAll0 (ps.map dP)=true
 |[]=>rfl
 |q::r=>by
  rw [List.map_cons,PyData.canLayAll0,zx4 r];simp [PyData.canLay0,PyData.canLayAll0]
structure Prs (H:Hp) (p:Addr) (ts:List Addr) (ps:List (Int×Int)):Prop where
 at_:H p=some (.lst (ts.map V.ref))
 len:ts.length=ps.length
 row:∀ (i:Nat) (t:Addr),ts[i]?=some t->H t=some (.tup [.int (ps.getD i (0,0)).1,.int (ps.getD i (0,0)).2])
section
variable {σ:St}{H H':Hp}{Q:VK}{D:Ends}{K:PySem.W.Frag}{X:Cx}
theorem Prs.same {p:Addr}{ts:List Addr}{ps:List (Int×Int)} (T:Prs H p ts ps) (s:Same H H'):Prs H' p ts ps:=⟨s.at T.at_,T.len,fun i l h=>s.at (T.row i l h)⟩
theorem zo9:∀ (ts:List Addr) (ps:List (Int×Int)),ts.length=ps.length->(∀ (i:Nat) (t:Addr),ts[i]?=some t->H t=some (.tup [.int (ps.getD i (0,0)).1,.int (ps.getD i (0,0)).2]))->zs7 K H (ts.map V.ref) (ps.map dP)
 |[],[],_,_=>.nil
 |[],_::_,h,_=>by simp at h
 |_::_,[],h,_=>by simp at h
 |t::ts,p::ps,h,f=>.cons (.tup (SqT.of (f 0 t rfl)) (.cons (.int _) (.cons (.int _) .nil))) (zo9 ts ps (by simpa using h) fun i u e=>f (i+1) u e)
theorem Prs.rd {p:Addr}{ts:List Addr}{ps:List (Int×Int)} (T:Prs H p ts ps):RdV K H (.ref p) (.list (ps.map dP)):=.lst (SqL.of T.at_) (zo9 ts ps T.len T.row)
noncomputable def z66 (K:PySem.W.Frag) (neg:Bool):R2:=fun x y H Q=>∃ ds d,RdV K H y (.list ds)/\RdV K H x d/\PyData.canLayAll0 ds=true/\PyData.canLay0 d=true/\PyData.depth d<=8/\Q (.bl (if neg=true then !(ds.any fun e=>PyData.eqv e d) else ds.any fun e=>PyData.eqv e d)) H
theorem z4p (hu:X.A.units+64<cLine):OpR X (compareOp .In) (z66 X.K false):=by
 intro pins s σ H x y v u Q I rx ry h;obtain ⟨ds,d,h1,h2,h3,h4,h5,q⟩:=h;obtain ⟨as,r1⟩:=h1.reads I ry;obtain ⟨bs,r2⟩:=h2.reads I rx;refine SeqAt.in_list_reads r1 r2 h3 h4 ?_ ⟨.bl _,H,I,rfl,q⟩;have:min (PyData.depthAll ds) d.depth<=d.depth:=Nat.min_le_right _ _;lia
theorem zys (hu:X.A.units+64<cLine):OpR X (compareOp .NotIn) (z66 X.K true):=by
 intro pins s σ H x y v u Q I rx ry h;obtain ⟨ds,d,h1,h2,h3,h4,h5,q⟩:=h;obtain ⟨as,r1⟩:=h1.reads I ry;obtain ⟨bs,r2⟩:=h2.reads I rx;refine SeqAt.notIn_list_reads r1 r2 h3 h4 ?_ ⟨.bl _,H,I,rfl,q⟩;have:min (PyData.depthAll ds) d.depth<=d.depth:=Nat.min_le_right _ _;lia
theorem z8o {p t:Addr}{ts:List Addr}{ps:List (Int×Int)}{i j:Int} (ht:H t=some (.tup [.int i,.int j])) (T:Prs H p ts ps) (h:Q (.bl (decide ((i,j)∈ps))) H):z66 K false (.ref t) (.ref p) H Q :=
 ⟨_,dP (i,j),T.rd,.tup (SqT.of ht) (.cons (.int _) (.cons (.int _) .nil)),zx4 ps,by simp [PyData.canLay0,PyData.canLayAll0],by simp [PyData.depth,PyData.depthAll],by rw [if_neg (by decide),zyz];exact h⟩
theorem z0b {p t:Addr}{ts:List Addr}{ps:List (Int×Int)}{i j:Int} (ht:H t=some (.tup [.int i,.int j])) (T:Prs H p ts ps) (h:Q (.bl (!decide ((i,j)∈ps))) H):z66 K true (.ref t) (.ref p) H Q :=
 ⟨_,dP (i,j),T.rd,.tup (SqT.of ht) (.cons (.int _) (.cons (.int _) .nil)),zx4 ps,by simp [PyData.canLay0,PyData.canLayAll0],by simp [PyData.depth,PyData.depthAll],by rw [if_pos rfl,zyz];exact h⟩
noncomputable abbrev kP (i j:Int):List Key:=[.inl i,.inl j]
theorem z2l (h:∀ p,H p=none->Q (.ref p) (upd H p (.dT []))):z2h σ H Q:=h
theorem z4l {R:Hp->Prop}{a t:Addr}{i j:Int}{v:V}{kvs:List (List Key×V)} (ha:H a=some (.dT kvs)) (ht:H t=some (.tup [.int i,.int j])) (hl:kvs.length<1000000) (h:R (upd H a (.dT (putK kvs (kP i j) v)))):DP R (.ref a) (.ref t) v H :=
 ⟨a,_,rfl,z0x.t (k:=kP i j) ha ht (Nat.lt_of_lt_of_le hl (by decide)),h⟩
noncomputable def DIn (neg:Bool) (Q:VK) (y x:V) (H2:Hp):Prop:=∃ a o,x=.ref a/\zs6 H2 a y o/\Q (.bl (if neg=true then !o.isSome else o.isSome)) H2
theorem z7f {ty td:TE} (h:ty σ H fun y H1=>td σ H1 fun x H2=>DIn false Q y x H2):z9f ty td σ H Q:=h
theorem z0d {ty td:TE} (h:ty σ H fun y H1=>td σ H1 fun x H2=>DIn true Q y x H2):zxc ty td σ H Q:=h
theorem zpx {neg:Bool}{a t:Addr}{i j:Int}{kvs:List (List Key×V)} (ha:H a=some (.dT kvs)) (ht:H t=some (.tup [.int i,.int j])) (h:Q (.bl (if neg=true then !(zbr kvs (kP i j)).isSome else (zbr kvs (kP i j)).isSome)) H):DIn neg Q (.ref t) (.ref a) H :=
 ⟨a,_,rfl,zs6.t (k:=kP i j) ha ht,h⟩
theorem z1o {neg:Bool}{a:Addr}{i:Int}{kvs:List (Key×V)} (ha:H a=some (.dK kvs)) (h:Q (.bl (if neg=true then !(zbr kvs (.inl i)).isSome else (zbr kvs (.inl i)).isSome)) H):DIn neg Q (.int i) (.ref a) H :=
 ⟨a,_,rfl,zs6.k (k:=.inl i) ha,h⟩
theorem zun (kvs:List (List Key×V)) (k:List Key) (v:V):(putK kvs k v).length<=kvs.length+1:=by
 unfold putK;split
 ·rw [List.length_map];lia
 ·simp
theorem zyr {i j i' j':Int}:kP i j=kP i' j'↔(i,j)=(i',j'):=by
 unfold kP;constructor
 ·intro h;injection h with h1 h2
  injection h2 with h3 _
  rw [Sum.inl.inj h1,Sum.inl.inj h3]
 ·intro h;injection h with h1 h2
  rw [h1,h2]
theorem zpp {t u:TS} (R:Hp->Prop) (h:∀ N':St->Hp->Prop,(∀ H',R H'->N' σ H')->t { D with nx:=N' } σ H) (k:∀ H',R H'->u D σ H'):z8g t u D σ H:=h (u D) k
theorem z5b {K:PySem.W.Frag}:PySem.W.kitOne K (.type "tuple") (.type "tuple")=some true:=rfl
theorem z09 {a:Addr}{vs:List V} (ha:H a=some (.tup vs)) (h:Q (.bl true) H):z1x K [.ref a,.ty "tuple"] H Q:=zwo rfl (.tup ha) z5b h
theorem z58 {p:Addr}{ys:List V} (hs:H p=some (.tup ys)) (h:Q (.int ys.length) H):zsd K [.ref p] H Q:=.inl ⟨p,ys,rfl,.inr (SqT.of hs),h⟩
theorem Prs.ne {p:Addr}{ts:List Addr}{ps:List (Int×Int)} (T:Prs H p ts ps) {i:Nat}{t:Addr} (h:ts[i]?=some t):t≠p:=fun e=>by
 have:=T.row i t h;rw [e,T.at_] at this;cases this
theorem Prs.snoc {p t:Addr}{ts:List Addr}{ps:List (Int×Int)}{i j:Int} (T:Prs H p ts ps) (ht:H t=some (.tup [.int i,.int j])):Prs (upd H p (.lst (ts.map V.ref++[.ref t]))) p (ts++[t]) (ps++[(i,j)]):=by
 have tp:t≠p:=fun e=>by rw [e,T.at_] at ht;cases ht
 refine ⟨by rw [zb,List.map_append];rfl,by simp [T.len],fun k u hk=>?_⟩;have hlen:=T.len;by_cases hkl:k<ts.length
 ·rw [List.getElem?_append_left hkl] at hk;rw [qz (T.ne hk)];have e:(ps++[(i,j)]).getD k (0,0)=ps.getD k (0,0):=by
   rw [List.getD_eq_getElem?_getD,List.getElem?_append_left (by lia),<- List.getD_eq_getElem?_getD]
  rw [e];exact T.row k u hk
 ·have hk2:=(List.getElem?_eq_some_iff.mp hk).1;rw [List.length_append,List.length_singleton] at hk2;have ek:k=ts.length:=by lia
  subst ek;rw [List.getElem?_append_right (Nat.le_refl _)] at hk;simp at hk
  subst hk;rw [qz tp];have e:(ps++[(i,j)]).getD ts.length (0,0)=(i,j):=by
   rw [List.getD_eq_getElem?_getD,hlen,List.getElem?_append_right (Nat.le_refl _)];simp
  rw [e];exact ht
noncomputable def z5t (xs:List V) (H:Hp) (Q:VK):Prop:=∃ i j,xs=[.int i,.int j]/\Q (.int (if j > i then j else i)) H
theorem zwc (hc:X.calm=true):zca X (.builtin "max") z5t:=zyo hc
theorem z6m {i j:Int} (h:Q (.int (max i j)) H):z5t [.int i,.int j] H Q:=by
 refine ⟨i,j,rfl,?_⟩;have e:(if j > i then j else i)=max i j:=by split<;>lia
 rw [e];exact h
theorem zpd {α:Type}:∀ l:List α,(zcp l).length+(zcp l.tail).length=l.length
 |[]=>rfl
 |[x]=>rfl
 |x::y::r=>by
  have ih:=zpd r;have e1:zcp (x::y::r)=x::zcp r:=rfl;have e2:(x::y::r).tail=y::r:=rfl;rw [e1,e2];cases r with
  |nil=>rfl
  |cons z t =>
   have e3:zcp (y::z::t)=y::zcp t:=rfl;rw [e3];simp only [List.tail_cons] at ih;simp only [List.length_cons] at ih ⊢;lia
end
theorem z3u (xs:Array Nat) (j:Nat) (up:xs.toList.Pairwise (·<·)):∀ (fuel lo hi:Nat),hi-lo<=fuel->lo<=hi->hi<=xs.size->(∀ i (h:i<xs.size),i<lo->xs[i]<j)->(∀ i (h:i<xs.size),hi<=i->j<=xs[i]) ->
  SetTable.below.go xs j fuel lo hi<=xs.size/\(∀ i (h:i<xs.size),i<SetTable.below.go xs j fuel lo hi->xs[i]<j)/\(∀ i (h:i<xs.size),SetTable.below.go xs j fuel lo hi<=i->j<=xs[i])
 |0,lo,hi,hf,h1,h2,a,b=>by
  have e:SetTable.below.go xs j 0 lo hi=lo:=rfl;rw [e];have:lo=hi:=by lia
  subst this;exact ⟨h2,a,b⟩
 |fuel+1,lo,hi,hf,h1,h2,a,b=>by
  rw [SetTable.below.go];by_cases hlt:lo<hi
  ·rw [if_pos hlt];have hm:(lo+hi)/2<xs.size:=by lia
   have eg:xs.getD ((lo+hi)/2) j=xs[(lo+hi)/2]:=by simp [Array.getD,hm]
   have mono:∀ i k (hi':i<xs.size) (hk:k<xs.size),i<k->xs[i]<xs[k]:=by
    intro i k hi' hk hik;have:=List.pairwise_iff_getElem.mp up i k (by simpa using hi') (by simpa using hk) hik;simpa using this
   by_cases hc:xs.getD ((lo+hi)/2) j<j
   ·rw [if_pos hc];rw [eg] at hc;refine z3u xs j up fuel _ hi (by lia) (by lia) h2 (fun i h q=>?_) b;by_cases z:i=(lo+hi)/2
    ·subst z;exact hc
    ·have:=mono i ((lo+hi)/2) h hm (by lia);lia
   ·rw [if_neg hc];rw [eg] at hc;refine z3u xs j up fuel lo _ (by lia) (by lia) (by lia) a (fun i h q=>?_);by_cases z:i=(lo+hi)/2
    ·subst z;lia
    ·have:=mono ((lo+hi)/2) i hm h (by lia);lia
  ·rw [if_neg hlt];have:lo=hi:=by lia
   subst this;exact ⟨h2,a,b⟩
theorem zyn {xs:Array Nat}{j:Nat} (up:xs.toList.Pairwise (·<·)):SetTable.below xs j<=xs.size/\(∀ i (h:i<xs.size),i<SetTable.below xs j->xs[i]<j)/\(∀ i (h:i<xs.size),SetTable.below xs j<=i->j<=xs[i]) :=
 z3u xs j up xs.size 0 xs.size (by lia) (Nat.zero_le _) (Nat.le_refl _) (fun _ _ q=>absurd q (Nat.not_lt_zero _)) (fun i h q=>absurd h (by lia))
structure Tbl (w:World) (t:SetTable):Prop where
 led:t.led=!(w.params.followText "set-order")
 dm:t.dummies=#[]
 up:t.plain=true->t.place.toList.Pairwise (·<·)
theorem Tbl.fresh {w:World}{f m:Nat}:Tbl w (.fresh f m (!(w.params.followText "set-order"))):=⟨rfl,rfl,fun _=>.nil⟩
theorem Tbl.standIn {w:World}{t:SetTable}{n:Nat} (T:Tbl w t):Tbl w (t.standIn n):=⟨T.led,rfl,fun h=>by cases h⟩
theorem Tbl.orStandIn {w:World}{t:SetTable}{n:Nat} (T:Tbl w t):Tbl w (t.orStandIn n):=by
 unfold SetTable.orStandIn;split
 ·exact T
 ·exact T.standIn
theorem Tbl.off {w:World}{t:SetTable} (T:Tbl w t):Tbl w { t with plain:=false }:=⟨T.led,T.dm,fun h=>by cases h⟩
theorem has_none (j:Nat):SetTable.has #[] j=false:=rfl
theorem zwg {w:World}{t:SetTable} (T:Tbl w t) {j:Nat} (h:t.slot j=.empty):t.place[SetTable.below t.place j]?≠some j:=by
 intro e;unfold SetTable.slot at h;dsimp only at h;rw [e] at h;simp at h
theorem zy2 {w:World}{t:SetTable} (T:Tbl w t) (j:Nat):t.slot j≠.dummy:=by
 unfold SetTable.slot;rw [T.dm,has_none];dsimp only;split
 ·intro h;cases h
 ·intro h;simp at h
theorem zva {w:World}{t:SetTable} (T:Tbl w t) (hashAt:Nat->Int) (h:Int):∀ (fuel:Nat) (p:SetTable.Probe) (j:Nat) (d:Option Nat),p.dummy=none->SetTable.probe.go t hashAt h fuel p=some (.empty j d)->d=none/\t.slot j=.empty
 |0,p,j,d,_,e=>by cases e
 |fuel+1,p,j,d,hp,e=>by
  have adv:∀ q:SetTable.Probe,q.dummy=none->(t.advance q).dummy=none:=by
   intro q hq;unfold SetTable.advance;split
   ·exact hq
   ·exact hq
  rw [SetTable.probe.go] at e;cases hs:t.slot p.j with
  |empty =>
   rw [hs] at e;injection e with e
   injection e with e1 e2
   subst e1;exact ⟨by rw [<- e2];exact hp,hs⟩
  |dummy=>exact absurd hs (zy2 T _)
  |live i =>
   rw [hs] at e;dsimp only at e;split at e
   ·cases e
   ·exact zva T hashAt h fuel _ j d (adv _ hp) e
theorem zzw {w:World}{t:SetTable} (T:Tbl w t) {h:Int}{j:Nat}{b:Bool} (e:t.freeSlot h=some (j,b)):t.place[SetTable.below t.place j]?≠some j:=by
 unfold SetTable.freeSlot at e;split at e
 ·rename_i j' d hp
  obtain ⟨rfl,hs⟩:=zva T _ _ _ _ _ _ rfl hp;have:j'=j:=by
   have:=congrArg (fun o=>o.map Prod.fst) e;simpa using this
  subst this;exact zwg T hs
 ·cases e
theorem Tbl.put {w:World}{t:SetTable} (T:Tbl w t) {j:Nat} (hj:t.place[SetTable.below t.place j]?≠some j):Tbl w (t.put j).1:=by
 unfold SetTable.put;refine ⟨T.led,?_,fun hp=>?_⟩
 ·dsimp only;rw [T.dm,has_none];rfl
 ·have up:=T.up hp;obtain ⟨h1,h2,h3⟩:=zyn (j:=j) up;dsimp only;rw [SetTable.toList_insertAt];generalize SetTable.below t.place j=b at h1 h2 h3 hj;have mono:∀ i k (hi':i<t.place.size) (hk:k<t.place.size),i<k->t.place[i]<t.place[k]:=by
   intro i k hi' hk hik;have:=List.pairwise_iff_getElem.mp up i k (by simpa using hi') (by simpa using hk) hik;simpa using this
  have big:∀ x∈t.place.toList.drop b,j<x:=by
   intro x hx;obtain ⟨i,hi,rfl⟩:=List.mem_iff_getElem.mp hx;rw [List.length_drop,Array.length_toList] at hi;rw [List.getElem_drop,Array.getElem_toList];have a:=h3 (b+i) (by lia) (by lia);rcases Nat.lt_or_eq_of_le a with q|q
   ·exact q
   ·exfalso
    by_cases hz:i=0
    ·subst hz;refine hj ?_;have hb:b<t.place.size:=by lia
     rw [Array.getElem?_eq_getElem hb];exact congrArg some q.symm
    ·have m:=mono b (b+i) (by lia) (by lia) (by lia);have c:=h3 b (by lia) (Nat.le_refl _);lia
  have small:∀ x∈t.place.toList.take b,x<j:=by
   intro x hx;obtain ⟨i,hi,rfl⟩:=List.mem_iff_getElem.mp hx;rw [List.length_take,Array.length_toList] at hi;rw [List.getElem_take,Array.getElem_toList];exact h2 i (by lia) (by lia)
  refine List.pairwise_append.mpr ⟨up.sublist (List.take_sublist _ _),List.pairwise_cons.mpr ⟨big,up.sublist (List.drop_sublist _ _)⟩,fun x hx y hy=>?_⟩;have hxj:=small x hx;rcases List.mem_cons.mp hy with rfl|hy
  ·exact hxj
  ·exact Nat.lt_trans hxj (big y hy)
theorem Tbl.lay {w:World}{t:SetTable} (T:Tbl w t) (es:Array (Int×Value)) (h:Int) (x:Value):Tbl w (layNew t es h x).2.1:=by
 unfold layNew;split
 ·rename_i j b e
  exact (T.put (zzw T e)).orStandIn
 ·exact T.standIn
theorem Tbl.laid {w:World}{mask f m:Nat}{led plain:Bool}{hs:Array Int}{t:SetTable}{o:Array Nat} (hl:led=!(w.params.followText "set-order")) (e:SetTable.laid mask f m led plain hs=some (t,o)):Tbl w t:=by
 unfold SetTable.laid at e;cases ho:SetTable.layClean mask hs with
 |none=>rw [ho] at e;cases e
 |some owner =>
  rw [ho] at e;have e':=Option.some.inj e;have e1:=congrArg Prod.fst e';dsimp only at e1;subst e1;refine ⟨hl,rfl,fun _=>?_⟩;dsimp only;have sub:((List.range (mask+1)).filterMap (fun j=>(owner.getD j none).map (j,·))).map Prod.fst=(List.range (mask+1)).filter (fun j=>(owner.getD j none).isSome):=by
   induction List.range (mask+1) with
   |nil=>rfl
   |cons a r ih =>
    rw [List.filterMap_cons,List.filter_cons];cases q:owner.getD a none with
    |none=>simpa using ih
    |some k=>simpa using ih
  have p:((List.range (mask+1)).filter (fun j=>(owner.getD j none).isSome)).Pairwise (·<·):=List.pairwise_lt_range.sublist List.filter_sublist;rw [<- sub] at p;simpa using p
theorem Tbl.relay {w:World}{t:SetTable} (T:Tbl w t) (es:Array (Int×Value)) (n:Nat):Tbl w (relayAll t es n).2.1:=by
 unfold relayAll;split
 ·rename_i t' o e
  dsimp only;split
  ·exact Tbl.laid T.led e
  ·exact T.standIn
 ·exact T.standIn
section
variable {P:Program}{w:World}{A:Around}{E:Value->Shared->Prop}{s:Shared}
noncomputable def SetT (P:Program) (w:World) (hp:Heap) (a:Addr) (S:Int->Bool) (n:Nat):Prop :=
 ∃ o es ep t,hp.get? a=some o/\o.ExactSet/\o.data=.set es ep t/\ElemsOf (intKind P w) es.toList/\(∀ k,S k=true↔∃ e∈es.toList,(intKind P w).is k e.2=true)/\es.size<scanBound/\t.fits es.size=true/\es.size=n/\Tbl w t
theorem zpj {hp:Heap}{a:Addr}{o:Obj}{es:Array (Int×Value)}{ep:Nat}{t:SetTable} (ho:hp.get? a=some o) (hx:o.ExactSet) (hd:o.data=.set es ep t) {es':Array (Int×Value)}{t':SetTable}{S':Int->Bool}
  (h1:ElemsOf (intKind P w) es'.toList) (h2:∀ k,S' k=true↔∃ e∈es'.toList,(intKind P w).is k e.2=true) (h3:es'.size<scanBound) (h4:t'.fits es'.size=true) (T:Tbl w t') :
  (hp.update a (Obj.putSet es' t')).get? a=some { o with data:=.set es' (ep+1) t' }/\SetT P w (hp.update a (Obj.putSet es' t')) a S' es'.size:=by
 obtain ⟨g,_⟩:=SetOf_store (knd:=intKind P w) ho hx hd h1 h2 h3 h4;exact ⟨g,_,es',ep+1,t',g,hx,rfl,h1,h2,h3,h4,rfl,T⟩
theorem set_tail {g:Bool->Sem Unit} (hg:∀ (b:Bool) (s₁:Shared) (Q':Unit->Shared->Prop),Q' () s₁->wpAny (model P w) A (g b) Q' E s₁)
  {a:Addr} {o:Obj} {es:Array (Int×Value)} {ep:Nat} {t:SetTable} (ho:s.heap.get? a=some o) (hx:o.ExactSet) (hd:o.data=.set es ep t) {e1:Array (Int×Value)} {t2:SetTable} {S':Int->Bool}
  (h1:ElemsOf (intKind P w) e1.toList) (h2:∀ k,S' k=true↔∃ e∈e1.toList,(intKind P w).is k e.2=true) (h3:e1.size<scanBound) (h4:t2.fits e1.size=true) (T:Tbl w t2) {wd:Bool} {R:Option Bool->Shared->Prop}
  (h:∀ hp',Heap.SameBut a s.heap hp'->SetT P w hp' a S' e1.size->R (some true) { s with heap:=hp' }) :
  wpAny (model P w) A (do
    storeSet a e1 t2
    if (!wd&&t2.tooFull)=true then do
      g (relayAll t2 e1 (SetTable.grown e1.size)).2.2
      storeSet a (relayAll t2 e1 (SetTable.grown e1.size)).1 (relayAll t2 e1 (SetTable.grown e1.size)).2.1
      pure (some true)
     else pure (some true)) R E s:=by
 refine wpAny_bind (wpAny_storeSet_of ho hd ?_ (fits_of_scanBound h3));obtain ⟨g1,k1⟩:=zpj ho hx hd h1 h2 h3 h4 T;have b1:=Heap.SameBut.update s.heap a (Obj.putSet e1 t2);by_cases hc:(!wd&&t2.tooFull)=true
 ·rw [if_pos hc];have pm:=relayAll_perm t2 e1 (SetTable.grown e1.size);have ft:=relayAll_fits t2 e1 (SetTable.grown e1.size);have T3:=T.relay e1 (SetTable.grown e1.size);generalize relayAll t2 e1 (SetTable.grown e1.size)=rl at pm ft T3 ⊢;obtain ⟨e2,t3,gv⟩:=rl;dsimp only at pm ft T3 ⊢;have z:e2.size=e1.size:=by rw [<- Array.length_toList,pm.length_eq,Array.length_toList]
  have f3:e2.size<scanBound:=by rw [z];exact h3
  have m2:∀ k,S' k=true↔∃ e∈e2.toList,(intKind P w).is k e.2=true:=fun k=>by
   rw [h2 k];exact ⟨fun ⟨e,he,q⟩=>⟨e,pm.mem_iff.mpr he,q⟩,fun ⟨e,he,q⟩=>⟨e,pm.mem_iff.mp he,q⟩⟩
  refine wpAny_bind (hg _ _ _ (wpAny_bind (wpAny_storeSet_of g1 rfl ?_ (fits_of_scanBound f3))));obtain ⟨_,k2⟩:=zpj (P:=P) (w:=w) g1 hx rfl (h1.perm pm) m2 f3 ft T3;rw [z] at k2;exact wpAny_pure (h _ (b1.trans (Heap.SameBut.update _ a _)) k2)
 ·rw [if_neg hc];exact wpAny_pure (h _ b1 k1)
theorem z4c {a:Addr}{S:Int->Bool}{n:Nat}{k:Int}{x:Value}{Q:Bool->Shared->Prop} (hk:(intKind P w).is k x=true) (hsc:x.scannable=true) (hS:SetT P w s.heap a S n) (room:n+1<scanBound)
  (h:∀ hp',Heap.SameBut a s.heap hp'->SetT P w hp' a (fun k'=>S k'||decide (k'=k)) (if S k then n else n+1)->Q (!S k) { s with heap:=hp' }) :
  wpAny (model P w) A (setAddHashed a x ((intKind P w).hash k)) Q E s:=by
 obtain ⟨o,es,ep,t,ho,hx,hd,hel,hm,hb,hf,hn,T⟩:=hS;unfold setAddHashed setAddHashedIn;refine wpAny_holding (wpAny_bind (wpAny_setState_of ho hd hf ?_));dsimp only;rw [byScan_of hsc hb hel,if_pos rfl];unfold setAddByScan;refine wpAny_bind (wpAny_bind (wpAny_rule (wpAny_bind (wpAny_setScan_of hk ho hd hf hel ?_))));have yes:∀ e∈es.toList,(intKind P w).is k e.2=true->S k=true:=fun e he q=>(hm k).mpr ⟨e,he,q⟩;cases hr:List.findIdx? (fun e=>(intKind P w).is k e.2) es.toList with
 |some j =>
  dsimp only;obtain ⟨hj,pj,_⟩:=List.findIdx?_eq_some_iff_getElem.mp hr;have sk:=yes _ (List.getElem_mem hj) pj;have q:=h s.heap (Heap.SameBut.refl a s.heap) ⟨o,es,ep,t,ho,hx,hd,hel,fun k'=>by
   rw [Bool.or_eq_true,decide_eq_true_eq,<- hm k']
   exact ⟨fun z=>z.elim id fun e=>e▸sk,.inl⟩,hb,hf,by rw [sk];exact hn,T⟩
  rw [sk] at q;exact wpAny_pure (wpAny_pure q)
 |none =>
  dsimp only;have sk:S k=false:=Bool.eq_false_iff.mpr fun z=>by
   obtain ⟨e,he,q⟩:=(hm k).mp z;have:=List.findIdx?_eq_none_iff.mp hr e he;rw [q] at this;cases this
  have pm:=layNew_perm t es ((intKind P w).hash k) x;have ft:=layNew_fits t es ((intKind P w).hash k) x;have T1:=T.lay es ((intKind P w).hash k) x;generalize layNew t es ((intKind P w).hash k) x=ly at pm ft T1 ⊢;obtain ⟨e1,t1,wd,gv⟩:=ly;dsimp only at pm ft T1 ⊢;rw [Array.toList_push] at pm;have el1:=(hel.push hk hsc).perm pm;have m1:=mem_push_iff hk hm pm;have z1:e1.size=n+1:=by rw [<- Array.length_toList,pm.length_eq,List.length_append,Array.length_toList,hn];rfl
  have b1:e1.size<scanBound:=by rw [z1];exact room
  have fin:∀ hp',Heap.SameBut a s.heap hp'->SetT P w hp' a (fun k'=>S k'||decide (k'=k)) e1.size->Q true { s with heap:=hp' }:=by
   intro hp' c1 c2;have q:=h hp' c1;rw [sk] at q;rw [z1] at c2;exact q c2
  have gw:∀ (b:Bool) (s₁:Shared) (Q':Unit->Shared->Prop),Q' () s₁->wpAny (model P w) A (match b with|true=>rule "set.scan.the-table-gave-way"|false=>pure ()) Q' E s₁:=by
   intro b s₁ Q' hq;cases b
   ·exact wpAny_pure hq
   ·exact wpAny_rule hq
  refine wpAny_bind (gw _ _ _ ?_);split
  ·refine wpAny_bind ?_;rw [hashByValue_scannable 8 hsc];refine wpAny_pure ?_;refine set_tail gw ho hx hd el1 m1 b1 ?_ ?_ ?_
   ·split
    ·exact ft
    ·exact SetTable.fits_plain_off ft
   ·split
    ·exact T1
    ·exact T1.off
   ·intro hp' c1 c2;dsimp only;exact wpAny_pure (fin hp' c1 c2)
  ·refine wpAny_bind (wpAny_pure ?_);rw [if_pos rfl];refine set_tail gw ho hx hd el1 m1 b1 ft T1 ?_;intro hp' c1 c2;dsimp only;exact wpAny_pure (fin hp' c1 c2)
end
section
variable {P:Program}{w:World}{A:Around}{R:Result->Shared->Prop}{I:Addr}{fp wr:List Addr}{G:Array GenState->Array GenState->Prop}{n:Nat}{It:Nat->Value->Prop}{St:Nat->Shared->Prop}
theorem SetT.congr {hp:Heap}{a:Addr}{S S':Int->Bool}{n n':Nat} (h:SetT P w hp a S n) (e:∀ k,S k=S' k) (en:n=n'):SetT P w hp a S' n':=by
 obtain rfl:S=S':=funext e;subst en;exact h
theorem SetT.keep {hp hp':Heap}{a:Addr}{S:Int->Bool}{n:Nat} (h:SetT P w hp a S n) (e:∀ o,hp.get? a=some o->hp'.get? a=some o):SetT P w hp' a S n:=by
 obtain ⟨o,es,ep,t,h1,r⟩:=h;exact ⟨o,es,ep,t,e o h1,r⟩
theorem z1b (W:WalksS P w A.in1 I fp wr G n It St) (a:Addr) (ha:a∉fp) (val:Nat->Int) (hv:∀ i v,It i v->∃ t,v=.int (val i) t) (room:n+1<scanBound) :
  ∀ (m i:Nat) (s:Shared),n-i=m->i<=n->St i s->SetT P w s.heap a (fun k=>(firstMet val i).any (·==k)) (firstMet val i).length ->
   (∀ s',Moved (a::wr) G s s'->SetT P w s'.heap a (fun k=>(firstMet val n).any (·==k)) (firstMet val n).length->R (.ok (.ret .none)) s') ->
   codeAny (model P w) A (.builtin "set.update.loop" ⟨[.ref a,.ref I],[]⟩) R s:=by
 have aw:a∉wr:=fun z=>ha (W.sub _ z);have sb:∀ b∈wr,b∈a::wr:=fun b z=>List.mem_cons_of_mem _ z;intro m;induction m with
 |zero =>
  intro i s hm hi st k fin;obtain rfl:i=n:=by lia
  refine codeAny_builtin F.entry_set_update_loop ?_;rw [Around.under_plainId F.plain_set_update_loop _];show wpAny _ A.in1 (pyNext (.ref I) >>= _) _ _ s
  refine wpAny_bind (W.done s _ _ st fun s' mv=>?_);exact wpAny_pure (fin s' (mv.mono sb) (k.keep fun o e=>mv.heap a o aw e))
 |succ m ih =>
  intro i s hm hi st k fin;have hlt:i<n:=by lia
  refine codeAny_builtin F.entry_set_update_loop ?_;rw [Around.under_plainId F.plain_set_update_loop _];show wpAny _ A.in1 (pyNext (.ref I) >>= _) _ _ s
  refine wpAny_bind (W.item i s _ _ hlt st fun v s' hP st' mv=>?_);obtain ⟨t,rfl⟩:=hv i v hP;have k':SetT P w s'.heap a (fun k=>(firstMet val i).any (·==k)) (firstMet val i).length:=k.keep fun o e=>mv.heap a o aw e;show wpAny _ A.in1 (holding [Value.int (val i) t] (setAdd a (.int (val i) t)) >>= _) _ _ s'
  refine wpAny_bind (wpAny_holding ?_);unfold setAdd;refine wpAny_holding (wpAny_bind ((intKind P w).pyHash (k:=val i) (intKind_is _ _ _ _) ?_));have rm:(firstMet val i).length+1<scanBound:=by
   have:=firstMet_length_le val i;lia
  refine z4c (s:={ s' with toks:=s'.toks+1 }) (intKind_is _ _ _ _) rfl k' rm fun hp' sm k2=>?_;have k3:SetT P w hp' a (fun k=>(firstMet val (i+1)).any (·==k)) (firstMet val (i+1)).length:=k2.congr (fun z=>by rw [firstMet_succ,step_any]) (by rw [firstMet_succ,step_length]);refine wpAny_pure ⟨plainId_quiet F.plain_set_update_loop _,ih (i+1) _ (by lia) hlt (W.frame _ s' _ _ st' (Nat.le_succ _) fun b hb o e=>?_) k3 fun s'' mv2 k4=>?_⟩
  ·rw [sm.2 b fun z:b=a=>ha (by rw [<- z];exact hb)];exact e
  ·refine fin s'' (Moved.trans W.gtrans ((mv.mono sb).then_heap (Nat.le_succ _) fun b o hb e=>?_) mv2) k4;rw [sm.2 b fun z:b=a=>hb (by rw [z];exact List.mem_cons_self)];exact e
end
section
variable {P:Program}{w:World}{A:Around}{E:Value->Shared->Prop}{s:Shared}
noncomputable abbrev zbe (w:World):Obj:={ cls:=.type "set",dict:=none,data:=.set #[] 0 (.fresh 0 0 (!(w.params.followText "set-order"))) }
theorem z3k (x:Value) {Q:Value->Shared->Prop} (h:Q (.ref s.heap.objs.size) { s with heap:=s.heap.push (zbe w) }) :
  codeAny (model P w) A (.call (.builtin "set.__new__") ⟨[.type "set",x],[]⟩) (wants Q E) s:=by
 refine codeAny_of_tree ?_;show wpAny _ A.in1 (do checkBuiltinCall "set.__new__" ⟨[.type "set",x],[]⟩;again (.builtin "set.__new__" ⟨[.type "set",x],[]⟩)) _ _ s
 refine wpAny_bind (wpAny_of_eq (F.newCall_set_1 x) (wpAny_pure ⟨plainId_quiet F.plain_set_new _,codeAny_builtin F.entry_set_new ?_⟩));rw [Around.under_plainId F.plain_set_new _];unfold Builtin.«set.__new__» Builtin.Frozenset.newClass;have hs:=sub_set_self;obtain ⟨hp,g,d,tk,os⟩:=s;dsimp only;wp_walk
 refine wpAny_askSetting (wpAny_pure ?_);dsimp only;simp only [newObj];exact wpAny_bind (wpAny_alloc (wpAny_pure (wpAny_pure h)))
theorem zwp {l:Addr}{its:Array Value}{ns:List Int}{Q:Value->Shared->Prop} (hh:A.handled=none) (hl:s.heap.IsList l its) (hi:IntsAre its.toList ns) (room:its.size+1<scanBound)
  (h:∀ (hp':Heap) (tk:Nat),SetT P w hp' s.heap.objs.size (fun k=>(firstMet (fun i=>ns.getD i 0) its.size).any (·==k)) (firstMet (fun i=>ns.getD i 0) its.size).length->(∀ b o,b<s.heap.objs.size->s.heap.get? b=some o->hp'.get? b=some o) ->
   Q (.ref s.heap.objs.size) { s with heap:=hp',toks:=tk }):wpAny (model P w) A (call (.type "set") [.ref l]) Q E s:=by
 obtain ⟨c,tl,mro⟩:=F.called_set.mro;have c1:=F.called_set.made;have c2:=F.called_set.sub;have c3:=F.called_set.notType;have c4:=F.called_set.canCreate;have c5:=F.typeCall_set_1 (.ref l);refine wpAny_call (codeAny_of_tree ?_);show wpAny _ _ (callAny (.type "set") _) _ _ _
 refine wpAny_pure ⟨Code.quiet_builtin _ (by decide +kernel),codeAny_builtin F.entry_type_call ?_⟩;rw [Around.under_plain (weight_type_call_type "set" [.ref l] []) rfl];repeat any_goals first|assumption|wp_step
 refine codeAny_mono (z3k (.ref l) (E:=E) (Q:=fun ob s₁=>ob=.ref s.heap.objs.size/\s₁={ s with heap:=s.heap.push (zbe w) }) ⟨rfl,rfl⟩) fun r s₁ hr=>?_;cases r with
 |error e=>exact hr
 |ok fl =>
  cases fl with
  |ret ob =>
   obtain ⟨rfl,rfl⟩:=hr;have hS:(s.heap.push (zbe w)).get? s.heap.objs.size=some (zbe w):=Heap.get?_push_size _ rfl;have hT:Shared.TypeIs { s with heap:=s.heap.push (zbe w) } (.ref s.heap.objs.size) "set":=⟨_,hS,rfl⟩
   have i1:=F.called_set.init.lookup;have i2:=F.called_set.init.bind (.ref s.heap.objs.size);repeat any_goals first|assumption|wp_step
   refine codeAny_mono (codeAny_call_builtin (R:=wants (fun r s₂=>r=.none/\∃ hp' tk,s₂={ s with heap:=hp',toks:=tk }/\SetT P w hp' s.heap.objs.size (fun k=>(firstMet (fun i=>ns.getD i 0) its.size).any (·==k)) (firstMet (fun i=>ns.getD i 0) its.size).length /\
     (∀ b o,b<s.heap.objs.size->s.heap.get? b=some o->hp'.get? b=some o)) E) F.called_set.init.plain F.entry_set_init (check_set_init_1 hT ?_)) fun r2 s2 h2=>?_
   ·obtain ⟨ol,g1,g2,nl,g3⟩:=hl;obtain ⟨oc,od,odt,osl⟩:=ol;simp only at g2 g3
    subst g2;subst g3;have g4:(s.heap.push (zbe w)).get? l=some { cls:=.type "list",dict:=od,data:=.seq its nl,slots:=osl }:=Heap.get?_push_of_some _ g1;have j1:=F.sub_list_set;have j2:=F.sub_list_frozenset;have j3:(Value.type "list"==Value.type "dict")=false:=by decide
    have l1:(s.heap.push (zbe w)).IsList l its:=⟨_,g4,rfl,nl,rfl⟩
    unfold Builtin.«set.__init__» noKeywords Builtin.Frozenset.updateFrom;generalize hp0:pyIter=PI;wp_walk
    subst hp0;refine wpAny_pyIter_list l1 (wpAny_bind (wpAny_runValue ?_));have ls:l<s.heap.objs.size:=Heap.lt_size g1;have hn:A.in1.in1.in1.handled=none:=by simp [hh]
    have ne1:l≠(s.heap.push (zbe w)).objs.size:=by
     rw [Heap.size_push];exact Nat.ne_of_lt (Nat.lt_succ_of_lt ls)
    have nf:s.heap.objs.size∉[(s.heap.push (zbe w)).objs.size,l]:=by
     rw [Heap.size_push];simp only [List.mem_cons,List.not_mem_nil,or_false,not_or];exact ⟨Nat.ne_of_lt (Nat.lt_succ_self _),Nat.ne_of_gt ls⟩
    have vl:∀ (i:Nat) (v:Value),its[i]?=some v->∃ t,v=.int ((fun i=>ns.getD i 0) i) t:=fun i v e=>IntsAre.int_at hi i v (by rw [Array.getElem?_toList];exact e);refine z1b ((Walks.list hn _ l ne1 its).toS) s.heap.objs.size nf (fun i=>ns.getD i 0) vl room (its.size-0) 0 _ (by lia) (Nat.zero_le _) ⟨⟨_,Heap.get?_push_size _ rfl,rfl,rfl⟩,(l1.push _)⟩ ?start ?fin;case start =>
     refine ⟨zbe w,#[],0,_,Heap.get?_push_of_some _ hS,⟨rfl,rfl,rfl⟩,rfl,fun e he=>by simp at he,fun k=>?_,by decide,rfl,rfl,Tbl.fresh⟩;simp [firstMet]
    case fin =>
     intro s' mv k;obtain ⟨hp',g',d',tk',os'⟩:=s';obtain rfl:g'=s.gens:=mv.gens;obtain rfl:d'=s.drawn:=mv.drawn;obtain rfl:os'=s.os:=mv.os;refine wpAny_pure ?_;show wpAny _ _ (ret Value.none) _ _ _
     refine wpAny_pure ⟨rfl,hp',tk',rfl,k,fun b o hb e=>?_⟩;refine mv.heap b o ?_ (Heap.get?_push_of_some _ (Heap.get?_push_of_some _ e));rw [Heap.size_push];simp only [List.mem_cons,List.not_mem_nil,or_false,not_or];exact ⟨Nat.ne_of_lt hb,Nat.ne_of_lt (Nat.lt_succ_of_lt hb)⟩
   ·cases r2 with
    |error e=>exact h2
    |ok fl2 =>
     cases fl2 with
     |ret r =>
      obtain ⟨rfl,hp',tk,rfl,k,keep⟩:=h2;repeat any_goals first|assumption|wp_step
      exact h _ _ k keep
     |_=>exact h2.elim
  |_=>exact hr.elim
end
section
variable {P:Program}{w:World}{A:Around}{E:Value->Shared->Prop}{s:Shared}
noncomputable def slotAt (t:SetTable) (i:Nat):Nat:=if i=0 then 0 else t.place.getD (i-1) 0+1
theorem zvu {t:SetTable} (up:t.place.toList.Pairwise (·<·)) {i:Nat} (hi:i<=t.place.size):SetTable.below t.place (slotAt t i)=i:=by
 obtain ⟨h1,h2,h3⟩:=zyn (j:=slotAt t i) up;have mono:∀ i k (hi':i<t.place.size) (hk:k<t.place.size),i<k->t.place[i]<t.place[k]:=by
  intro i k hi' hk hik;have:=List.pairwise_iff_getElem.mp up i k (by simpa using hi') (by simpa using hk) hik;simpa using this
 generalize hb:SetTable.below t.place (slotAt t i)=b at h1 h2 h3;have sl:∀ k (hk:k<t.place.size),k+1=i->slotAt t i=t.place[k]+1:=by
  intro k hk e;subst e;unfold slotAt;rw [if_neg (by lia),Nat.add_sub_cancel];simp [Array.getD,hk]
 rcases Nat.lt_trichotomy b i with q|q|q
 ·have hb':b<t.place.size:=by lia
  have a:=h3 b hb' (Nat.le_refl _);rw [sl (i-1) (by lia) (by lia)] at a;rcases Nat.lt_or_ge b (i-1) with z|z
  ·have:=mono b (i-1) hb' (by lia) z;lia
  ·have e:b=i-1:=by lia
   subst e;lia
 ·exact q
 ·have hi':i<t.place.size:=by lia
  have a:=h2 i hi' q;by_cases z:i=0
  ·subst z;have:slotAt t 0=0:=rfl;lia
  ·rw [sl (i-1) (by lia) (by lia)] at a;have:=mono (i-1) i (by lia) hi' (by lia);lia
theorem zo6 {a:Addr}{o:Obj}{es:Array (Int×Value)}{ep:Nat}{t:SetTable}{Q:Option (Value×Nat)->Shared->Prop} (ho:s.heap.get? a=some o) (hd:o.data=.set es ep t) (hf:t.fits es.size=true) (T:Tbl w t)
  (bt:w.params.followText "set-order"=false) (pl:t.plain=true\/es.size<=1) (up:t.place.toList.Pairwise (·<·)) {i:Nat} (hi:i<=es.size) {e':Nat}
  (h:Q (match es[i]?,t.place[i]? with|some (_,x),some j=>some (x,j+1)|_,_=>none) s):wpAny (model P w) A (setNext a (slotAt t i) i e') Q E s:=by
 have hz:t.place.size=es.size:=by
  unfold SetTable.fits at hf;simp at hf
  exact hf.1
 unfold setNext;refine wpAny_bind (wpAny_setState_of ho hd hf ?_);dsimp only;unfold setsByText;refine wpAny_bind (wpAny_bind (wpAny_askSetting (wpAny_pure ?_)));have e1:(Setting.params ⟨(model P w).prog,(model P w).w.params⟩).followText "set-order"=false:=bt;rw [e1];rw [if_neg (by decide)];have dr:(!t.plain&&decide (es.size > 1))=false:=by
  rcases pl with q|q
  ·rw [q];rfl
  ·rw [decide_eq_false (by lia),Bool.and_false]
 show wpAny _ _ (if (!t.plain&&decide (es.size > 1))=true then (unsupported "set_iterator.__next__:the-table-is-plain-no-more" >>= _) else _) _ _ s
 rw [dr,if_neg (by decide)];have ld:t.led=true:=by rw [T.led,bt];rfl
 refine wpAny_bind ?_;show wpAny _ _ (if (!t.led&&!es.isEmpty)=true then unsupported "set:maker-not-led" else pure ()) _ _ s
 rw [ld,if_neg (by simp)];refine wpAny_pure (wpAny_pure ?_);rw [zvu up (by lia)];exact h
theorem zlc {α:Type}:∀ (l:List α) (i:Nat) (h:i<l.length),(l[i]::l.eraseIdx i).Perm l
 |_::_,0,_=>List.Perm.refl _
 |x::r,i+1,h=>(List.Perm.swap _ _ _).trans (List.Perm.cons x (zlc r i (by simpa using h)))
theorem zwx {α:Type} (next:Nat->Nat):∀ (fuel k:Nat) (left:List α) (out:Array α),left.length<=fuel->(pickOrder.go next fuel k left out).toList.Perm (out.toList++left)
 |0,k,left,out,h=>by
  have:left=[]:=List.eq_nil_of_length_eq_zero (by lia);subst this;rw [pickOrder.go,List.append_nil]
 |fuel+1,k,[],out,h=>by
  rw [pickOrder.go];simp
 |fuel+1,k,x::r,out,h=>by
  rw [pickOrder.go];have hlt:next k%(x::r).length<(x::r).length:=Nat.mod_lt _ (by simp);rw [List.getElem?_eq_getElem hlt];dsimp only;have ih:=zwx next fuel (k+1) ((x::r).eraseIdx (next k%(x::r).length)) (out.push (x::r)[next k%(x::r).length]) (by rw [List.length_eraseIdx_of_lt hlt];lia);refine ih.trans ?_;rw [Array.toList_push,List.append_assoc];refine List.Perm.append_left _ ?_;exact zlc _ _ hlt
theorem zze {α:Type} (next:Nat->Nat) (xs:Array α):(pickOrder next xs).toList.Perm xs.toList:=by
 have:=zwx next xs.size 0 xs.toList #[] (by simp);simpa [pickOrder] using this
theorem zsq {a:Addr}{o:Obj}{es:Array (Int×Value)}{ep:Nat}{t:SetTable}{Q:Option (Value×Nat)->Shared->Prop} (ho:s.heap.get? a=some o) (hd:o.data=.set es ep t) (hf:t.fits es.size=true)
  (bt:w.params.followText "set-order"=true) {i sl:Nat} (h:Q (((pickOrder (w.params.setOrder a ep) es)[i]?).map fun e=>(e.2,sl)) s):wpAny (model P w) A (setNext a sl i ep) Q E s:=by
 unfold setNext;refine wpAny_bind (wpAny_setState_of ho hd hf ?_);dsimp only;unfold setsByText;refine wpAny_bind (wpAny_bind (wpAny_askSetting (wpAny_pure ?_)));have e1:(Setting.params ⟨(model P w).prog,(model P w).w.params⟩).followText "set-order"=true:=bt;rw [e1,if_pos rfl];rw [if_neg (by simp)];unfold setWalk setsByText;refine wpAny_bind (wpAny_bind (wpAny_setState_of ho hd hf ?_));dsimp only;refine wpAny_bind (wpAny_bind (wpAny_askSetting (wpAny_pure ?_)));rw [e1,if_pos rfl];refine wpAny_bind (wpAny_askSetting (wpAny_pure ?_));exact wpAny_pure h
theorem zv6 {a:Addr}{o:Obj}{es:Array (Int×Value)}{ep:Nat}{t:SetTable}{Q:Value->Shared->Prop} (ho:s.heap.get? a=some o) (hd:o.data=.set es ep t) (hf:t.fits es.size=true) {p:Nat}{e:Int×Value} (he:es[p]?=some e) (h:Q e.2 s) :
  wpAny (model P w) A (setNextDrawn a p ep) Q E s:=by
 unfold setNextDrawn;refine wpAny_bind (wpAny_setState_of ho hd hf ?_);dsimp only;rw [if_neg (by simp),he];exact wpAny_pure h
end
theorem z1e:entryFor table "set.__iter__"=some Builtin.«frozenset.__iter__»:=entryFor_alias (id':="frozenset.__iter__") (by kernel_rfl) rfl (by decide +kernel) (by kernel_rfl)
theorem zdw:Slot "set_iterator" "__next__" "set_iterator.__next__":=.of (owner:="set_iterator") (n:="__next__") (by rw [typeLookup_type,builtinLookup_eq_fast];kernel_rfl) (by decide +kernel) (by decide +kernel) (by decide +kernel) (by first|exact .inl (by decide +kernel)|exact .inr (by decide +kernel)) (by rw [isSubtype_type];kernel_rfl)
theorem zmp:entryFor table "set_iterator.__next__"=some Builtin.«set_iterator.__next__»:=entryFor_of_tree (by kernel_rfl)
theorem zqm (a:Value):argsOk "set_iterator.__next__" ⟨[a],[]⟩:=by
 unfold argsOk;kernel_rfl
section
variable {P:Program}{w:World}{A:Around}{E:Value->Shared->Prop}{s:Shared}
noncomputable def zaw (h:Heap) (a:Addr) (es:Array (Int×Value)) (ep:Nat) (t:SetTable):Prop:=∃ o,h.get? a=some o/\o.ExactSet/\o.data=.set es ep t/\t.fits es.size=true
theorem zaw.to {h h':Heap}{a:Addr}{es:Array (Int×Value)}{ep:Nat}{t:SetTable} (x:zaw h a es ep t) (e:∀ o,h.get? a=some o->h'.get? a=some o):zaw h' a es ep t:=let ⟨o,ho,r⟩:=x;⟨o,e o ho,r⟩
noncomputable def zie (h:Heap) (it:Addr) (first:Value) (i a n ep:Nat):Prop:=∃ o,h.get? it=some o/\o.cls=.type "set_iterator"/\o.data=.fields #[first,.int i 0,.ref a,.int n 0,.int ep 0]
theorem zie.ty {it:Addr}{first:Value}{i a n ep:Nat} (x:zie s.heap it first i a n ep):s.TypeIs (.ref it) "set_iterator":=let ⟨o,ho,hc,_⟩:=x;⟨o,ho,hc⟩
theorem zie.to {h h':Heap}{it:Addr}{first:Value}{i a n ep:Nat} (x:zie h it first i a n ep) (e:∀ o,h.get? it=some o->h'.get? it=some o):zie h' it first i a n ep:=let ⟨o,ho,r⟩:=x;⟨o,e o ho,r⟩
theorem ze2 {a:Addr}{es:Array (Int×Value)}{ep:Nat}{t:SetTable}{Q:Array (Int×Value)->Shared->Prop} (hm:zaw s.heap a es ep t) (h:Q es s):wpAny (model P w) A (setEntries a) Q E s:=by
 obtain ⟨o,ho,hx,hd,hf⟩:=hm;unfold setEntries;exact wpAny_bind (wpAny_setState_of ho hd hf (wpAny_pure h))
theorem zu3 {a:Addr}{es:Array (Int×Value)}{ep:Nat}{t:SetTable}{Q:Nat->Shared->Prop} (hm:zaw s.heap a es ep t) (h:Q ep s):wpAny (model P w) A (setEpoch a) Q E s:=by
 obtain ⟨o,ho,hx,hd,hf⟩:=hm;unfold setEpoch;exact wpAny_bind (wpAny_setState_of ho hd hf (wpAny_pure h))
theorem ztf {it a:Addr}{sl i ep nx:Nat}{x:Value}{es:Array (Int×Value)}{t:SetTable}{Q:Option Value->Shared->Prop} (hit:zie s.heap it (rawInt sl) i a es.size ep) (hm:zaw s.heap a es ep t)
  (hn:∀ (A':Around) (E':Value->Shared->Prop) (Q':Option (Value×Nat)->Shared->Prop),Q' (some (x,nx)) s->wpAny (model P w) A' (setNext a sl i ep) Q' E' s)
  (hQ:∀ h',zie h' it (rawInt nx) (i+1) a es.size ep->Heap.SameBut it s.heap h'->Q (some x) { s with heap:=h' }):wpAny (model P w) A (pyNext (.ref it)) Q E s:=by
 obtain ⟨o,ho,hc,hd⟩:=id hit;unfold pyNext;refine wpAny_bind (wpAny_attempt (wpAny_callSpecial?_slot (name:=Str.ofString "__next__") hit.ty zdw (wpAny_call_entry zdw hit.ty zmp ?_ (zqm _))));unfold Builtin.«set_iterator.__next__»;refine wpAny_bind (wpAny_pure ?_);try dsimp only
 refine wpAny_bind (wpAny_fieldsOf ho hd ?_);try dsimp only
 refine wpAny_bind (ze2 hm ?_);try dsimp only
 rw [if_neg (by simp)];show wpAny _ _ (setNext a (Int.toNat (sl:Int)) (Int.toNat (i:Int)) (Int.toNat (ep:Int)) >>= _) _ _ _
 simp only [Int.toNat_natCast];refine wpAny_bind (hn _ _ _ ?_);try dsimp only
 refine wpAny_bind (wpAny_setField ho hd (by simp) ?_);have g1:=Heap.get?_update_self (Obj.mapFields (·.setIfInBounds 0 (rawInt (nx:Int)))) ho (Obj.isFreed_of_fields (Obj.data_mapFields hd _));have d1:(o.mapFields (·.setIfInBounds 0 (rawInt (nx:Int)))).data=.fields #[rawInt (nx:Int),.int i 0,.ref a,.int es.size 0,.int ep 0]:=by rw [Obj.data_mapFields hd];rfl
 refine wpAny_bind (wpAny_setField g1 d1 (by simp) ?_);refine wpAny_pure ⟨x,rfl,wpAny_pure (hQ _ ⟨_,Heap.get?_update_self _ g1 (Obj.isFreed_of_fields (Obj.data_mapFields d1 _)),((Obj.cls_mapFields ..).trans (Obj.cls_mapFields ..)).trans hc,?_⟩ ?_)⟩
 ·rw [Obj.data_mapFields d1];simp [rawInt]
 ·exact (Heap.SameBut.update ..).trans (Heap.SameBut.update ..)
theorem zqw {it a tp:Addr}{i ep p:Nat}{es:Array (Int×Value)}{t:SetTable}{pl:Array Value}{ot:Obj}{c:Nat}{Q:Option Value->Shared->Prop} (hit:zie s.heap it (.ref tp) i a es.size ep) (hm:zaw s.heap a es ep t)
  (htp:s.heap.get? tp=some ot) (hot:ot.data=.seq pl c) (hp:pl[i]?=some (rawInt p)) {e:Int×Value} (he:es[p]?=some e)
  (hQ:∀ h',zie h' it (.ref tp) (i+1) a es.size ep->Heap.SameBut it s.heap h'->Q (some e.2) { s with heap:=h' }):wpAny (model P w) A (pyNext (.ref it)) Q E s:=by
 obtain ⟨o,ho,hc,hd⟩:=id hit;obtain ⟨os',hos,hx,hds,hf⟩:=id hm;unfold pyNext;refine wpAny_bind (wpAny_attempt (wpAny_callSpecial?_slot (name:=Str.ofString "__next__") hit.ty zdw (wpAny_call_entry zdw hit.ty zmp ?_ (zqm _))));unfold Builtin.«set_iterator.__next__»;refine wpAny_bind (wpAny_pure ?_);try dsimp only
 refine wpAny_bind (wpAny_fieldsOf ho hd ?_);try dsimp only
 refine wpAny_bind (ze2 hm ?_);try dsimp only
 rw [if_neg (by simp)];refine wpAny_bind (wpAny_seqItems htp hot ?_);try dsimp only
 rw [show pl[Int.toNat (i:Int)]?=some (rawInt p) from hp];show wpAny _ _ (setNextDrawn a (Int.toNat (p:Int)) (Int.toNat (ep:Int)) >>= _) _ _ _
 simp only [Int.toNat_natCast];refine wpAny_bind (zv6 hos hds hf he ?_);refine wpAny_bind (wpAny_setField ho hd (by simp) ?_);refine wpAny_pure ⟨e.2,rfl,wpAny_pure (hQ _ ⟨_,Heap.get?_update_self _ ho (Obj.isFreed_of_fields (Obj.data_mapFields hd _)),(Obj.cls_mapFields ..).trans hc,?_⟩ (Heap.SameBut.update ..))⟩;rw [Obj.data_mapFields hd];simp [rawInt]
theorem zyl {h1:Heap}{tk:Nat}{Q:Option Value->Shared->Prop} (hh:A.in1.handled=none) (hQ:∀ h',(∀ b o,h1.get? b=some o->h'.get? b=some o)->Q none { s with heap:=h',toks:=tk }) :
  wpAny (model P w) A.in1 (do raiseNew (<- newExc (.type "StopIteration") []):Sem PySem.Fin) (fun fin s'=>∃ v,fin=Fin.done (Flow.ret v)/\wpAny (model P w) A (pure (some v)) Q E s')
   (fun e s'=>wpAny (model P w) A (do let b <- isInstance e (Value.type "StopIteration");if b=true then pure none else throw e) Q E s') { s with heap:=h1,toks:=tk }:=by
 refine wpAny_bind ?_;simp only [newExc,newTuple];refine wpAny_bind (wpAny_newObj_type (wpAny_bind (m:=firstArgMember _ _) (wpAny_of_eq (a:=Value.none) (by first|rfl|(simp only [firstArgMember];rfl)) ?_)) (by size_fits));refine wpAny_newObj_type ?_ (by size_fits);simp only [raiseNew];refine wpAny_bind (wpAny_handled ?_);rw [hh];refine wpAny_bind (wpAny_pure (wpAny_throw ?_));refine wpAny_bind (wpAny_isInstance (T:="StopIteration") (b:=true) ⟨_,Heap.get?_push_size _ rfl,rfl⟩ isSubtype_stop ?_);exact wpAny_pure (hQ _ fun b o e=>Heap.get?_push_of_some _ (Heap.get?_push_of_some _ e))
theorem zvm {it a:Addr}{sl i ep:Nat}{es:Array (Int×Value)}{t:SetTable}{Q:Option Value->Shared->Prop} (hh:A.handled=none) (hit:zie s.heap it (rawInt sl) i a es.size ep) (hm:zaw s.heap a es ep t)
  (hn:∀ (A':Around) (E':Value->Shared->Prop) (Q':Option (Value×Nat)->Shared->Prop),Q' none s->wpAny (model P w) A' (setNext a sl i ep) Q' E' s)
  (hQ:∀ h',Heap.ExtBut it s.heap h'->Q none { s with heap:=h' }):wpAny (model P w) A (pyNext (.ref it)) Q E s:=by
 obtain ⟨o,ho,hc,hd⟩:=id hit;unfold pyNext;refine wpAny_bind (wpAny_attempt (wpAny_callSpecial?_slot (name:=Str.ofString "__next__") hit.ty zdw (wpAny_call_entry zdw hit.ty zmp ?_ (zqm _))));unfold Builtin.«set_iterator.__next__»;refine wpAny_bind (wpAny_pure ?_);try dsimp only
 refine wpAny_bind (wpAny_fieldsOf ho hd ?_);try dsimp only
 refine wpAny_bind (ze2 hm ?_);try dsimp only
 rw [if_neg (by simp)];show wpAny _ _ (setNext a (Int.toNat (sl:Int)) (Int.toNat (i:Int)) (Int.toNat (ep:Int)) >>= _) _ _ _
 simp only [Int.toNat_natCast];refine wpAny_bind (hn _ _ _ ?_);try dsimp only
 refine wpAny_bind (wpAny_setField ho hd (by simp) ?_);exact zyl (s:=s) (tk:=s.toks) hh fun h' kp=>hQ h' fun b o hb e=>kp b o (by rw [Heap.get?_update_ne _ _ _ _ hb];exact e)
theorem zs3 {it a tp:Addr}{i ep:Nat}{es:Array (Int×Value)}{t:SetTable}{pl:Array Value}{ot:Obj}{c:Nat}{Q:Option Value->Shared->Prop} (hh:A.handled=none) (hit:zie s.heap it (.ref tp) i a es.size ep) (hm:zaw s.heap a es ep t)
  (htp:s.heap.get? tp=some ot) (hot:ot.data=.seq pl c) (hp:pl[i]?=none)
  (hQ:∀ h',Heap.ExtBut it s.heap h'->Q none { s with heap:=h' }):wpAny (model P w) A (pyNext (.ref it)) Q E s:=by
 obtain ⟨o,ho,hc,hd⟩:=id hit;unfold pyNext;refine wpAny_bind (wpAny_attempt (wpAny_callSpecial?_slot (name:=Str.ofString "__next__") hit.ty zdw (wpAny_call_entry zdw hit.ty zmp ?_ (zqm _))));unfold Builtin.«set_iterator.__next__»;refine wpAny_bind (wpAny_pure ?_);try dsimp only
 refine wpAny_bind (wpAny_fieldsOf ho hd ?_);try dsimp only
 refine wpAny_bind (ze2 hm ?_);try dsimp only
 rw [if_neg (by simp)];refine wpAny_bind (wpAny_seqItems htp hot ?_);try dsimp only
 rw [show pl[Int.toNat (i:Int)]?=none from hp];try dsimp only
 refine wpAny_bind (wpAny_setField ho hd (by simp) ?_);have g1:=Heap.get?_update_self (Obj.mapFields (·.setIfInBounds 0 (rawInt 0))) ho (Obj.isFreed_of_fields (Obj.data_mapFields hd _));have d1:(o.mapFields (·.setIfInBounds 0 (rawInt 0))).data=.fields #[rawInt 0,.int i 0,.ref a,.int es.size 0,.int ep 0]:=by rw [Obj.data_mapFields hd];rfl
 refine wpAny_bind (wpAny_setField g1 d1 (by simp) ?_);exact zyl (s:=s) (tk:=s.toks) hh fun h' kp=>hQ h' fun b o hb e=>kp b o (by rw [Heap.get?_update_ne _ _ _ _ hb,Heap.get?_update_ne _ _ _ _ hb];exact e)
end
section
variable {P:Program}{w:World}{A:Around}{E:Value->Shared->Prop}{s:Shared}
theorem zv0 {src:Source}{n:Nat}{Q:Nat->Shared->Prop} (hn:n≠0) (h:∀ i d,i<n->Q i { s with drawn:=d }):wpAny (model P w) A (choose src n) Q E s:=fun Γ p hΓ=>by
 unfold choose;rw [Sem.wp_choose];exact ⟨hn,h _ _ (Nat.mod_lt _ (Nat.pos_of_ne_zero hn))⟩
theorem zlw {α:Type}:∀ (n:Nat) (xs:List α) (s:Shared) (Q:List α->Shared->Prop),xs.length<=n->(∀ ys d,ys.Perm xs->Q ys { s with drawn:=d })->wpAny (model P w) A (drawOrder n xs) Q E s
 |0,xs,s,Q,hl,h=>by
  have:xs=[]:=List.length_eq_zero_iff.mp (by lia);subst this;unfold drawOrder;exact wpAny_pure (h [] s.drawn (.refl _))
 |n+1,[],s,Q,hl,h=>by
  unfold drawOrder;exact wpAny_pure (h [] s.drawn (.refl _))
 |n+1,x::xs,s,Q,hl,h=>by
  unfold drawOrder;refine wpAny_bind (zv0 (by simp) fun i d hi=>?_);rw [List.getElem?_eq_getElem hi];refine wpAny_bind (zlw n _ _ _ (by rw [List.length_eraseIdx];simp only [hi,if_true];simp at hl ⊢;lia) fun ys d' hp=>?_);exact wpAny_pure (h _ d' ((List.Perm.cons _ hp).trans (zlc _ i hi)))
theorem z1g {r:Addr}{Q:Bool->Shared->Prop} (hT:s.TypeIs (.ref r) "set") (h:Q false s):wpAny (model P w) A (Builtin.List.listLengthHint (.ref r)) Q E s:=by
 unfold Builtin.List.listLengthHint;refine wpAny_bind (wpAny_specialOf hT PySem.F.slot_set_len.lookup ?_);generalize hid:("set.__len__":String)=id0;wp_delta
 rw [show splitId id0=some ("set","__len__") from by subst hid;decide +kernel];subst hid;refine wpAny_bind (wpAny_isInstance (T:="set") (b:=true) hT (by rw [isSubtype_type];kernel_rfl) ?_);refine wpAny_ite_split (fun hab=>absurd hab (by decide)) fun _=>?_;refine wpAny_ite_split (fun _=>?_) fun hab=>absurd (by decide +kernel) hab;exact wpAny_bind (wpAny_typeOf hT (wpAny_pure h))
theorem zaw.ty {a:Addr}{es:Array (Int×Value)}{ep:Nat}{t:SetTable} (x:zaw s.heap a es ep t):s.TypeIs (.ref a) "set":=let ⟨o,ho,hc,_⟩:=x;⟨o,ho,hc.1⟩
theorem zyp:Slot "set_iterator" "__iter__" "set_iterator.__iter__":=.of (owner:="set_iterator") (n:="__iter__") (by rw [typeLookup_type,builtinLookup_eq_fast];kernel_rfl) (by decide +kernel) (by decide +kernel) (by decide +kernel) (by first|exact .inl (by decide +kernel)|exact .inr (by decide +kernel)) (by rw [isSubtype_type];kernel_rfl)
theorem zzv:entryFor table "set_iterator.__iter__"=some Builtin.«dict_keyiterator.__iter__»:=entryFor_alias (id':="dict_keyiterator.__iter__") (by kernel_rfl) rfl (by decide +kernel) (by kernel_rfl)
theorem z2p (a:Value):argsOk "set_iterator.__iter__" ⟨[a],[]⟩:=by
 unfold argsOk;kernel_rfl
theorem zww {it:Addr}{first:Value}{i a n ep:Nat}{Q:Value->Shared->Prop} (hit:zie s.heap it first i a n ep) (h:Q (.ref it) s):wpAny (model P w) A (pyIter (.ref it)) Q E s:=by
 refine wpAny_pyIter_slot hit.ty zyp (wpAny_call_entry zyp hit.ty zzv ?_ (z2p _));show wpAny _ _ (ret (.ref it)) _ _ s
 exact wpAny_pure ⟨_,rfl,"set_iterator",_,hit.ty,zdw.lookup,h⟩
theorem zr2 (hh:A.handled=none) (I a:Addr) (hne:a≠I) {es ord:Array (Int×Value)}{ep:Nat}{t:SetTable} (slots:Nat->Nat) (hsz:ord.size=es.size)
  (on:∀ (i:Nat) (hi:i<ord.size) (s:Shared),zaw s.heap a es ep t->∀ (A':Around) (E':Value->Shared->Prop) (Q':Option (Value×Nat)->Shared->Prop),Q' (some (ord[i].2,slots (i+1))) s->wpAny (model P w) A' (setNext a (slots i) i ep) Q' E' s)
  (off:∀ (s:Shared),zaw s.heap a es ep t->∀ (A':Around) (E':Value->Shared->Prop) (Q':Option (Value×Nat)->Shared->Prop),Q' none s->wpAny (model P w) A' (setNext a (slots es.size) es.size ep) Q' E' s) :
  Walks P w A I [I,a] [I] es.size (fun i v=>∃ e,ord[i]?=some e/\v=e.2) (fun i h=>zie h I (rawInt (slots i)) i a es.size ep/\zaw h a es ep t) where
 sub:=fun b hb=>by
  have:b=I:=by simpa using hb
  simp [this]
 frame:=fun _ _ _ st hk=>⟨st.1.to fun o e=>hk I (by simp) o e,st.2.to fun o e=>hk a (by simp) o e⟩
 item:=fun i s Q E hi st hQ=>by
  have hi':i<ord.size:=by lia
  refine ztf st.1 st.2 (fun A' E' Q' q=>on i hi' s st.2 A' E' Q' q) fun h' st' sm=>?_;exact hQ _ h' s.toks ⟨ord[i],by simp [hi'],rfl⟩ ⟨st',st.2.to fun o e=>sm.extBut a o hne e⟩ fun b o hb e=>sm.extBut b o (fun h=>hb (by simp [h])) e
 done:=fun s Q E st hQ=>zvm hh st.1 st.2 (fun A' E' Q' q=>off s st.2 A' E' Q' q) fun h' he=>hQ h' s.toks fun b o hb e=>he b o (fun h=>hb (by simp [h])) e
 self:=fun _ _ _ _ st hQ=>zww st.1 hQ
theorem zt3 (hh:A.handled=none) (I a tp:Addr) (hne:a≠I) (htI:tp≠I) {es ord:Array (Int×Value)}{ep:Nat}{t:SetTable}{ys:List Nat}{ot:Obj}{c:Nat} (hot:ot.data=.seq (ys.map fun i:Nat=>rawInt i).toArray c) (hsz:ys.length=es.size)
  (ho:∀ (i:Nat) (e:Int×Value),ord[i]?=some e↔∃ p,ys[i]?=some p/\es[p]?=some e) (hall:∀ p∈ys,p<es.size) :
  Walks P w A I [I,a,tp] [I] es.size (fun i v=>∃ e,ord[i]?=some e/\v=e.2) (fun i h=>zie h I (.ref tp) i a es.size ep/\zaw h a es ep t/\h.get? tp=some ot) where
 sub:=fun b hb=>by
  have:b=I:=by simpa using hb
  simp [this]
 frame:=fun _ _ _ st hk=>⟨st.1.to fun o e=>hk I (by simp) o e,st.2.1.to fun o e=>hk a (by simp) o e,hk tp (by simp) _ st.2.2⟩
 item:=fun i s Q E hi st hQ=>by
  have hi':i<ys.length:=by lia
  have hp:ys[i]<es.size:=hall _ (List.getElem_mem _);refine zqw (p:=ys[i]) (e:=es[ys[i]]) st.1 st.2.1 st.2.2 hot (by simp [hi']) (by simp [hp]) fun h' st' sm=>?_;exact hQ _ h' s.toks ⟨es[ys[i]],(ho i _).mpr ⟨ys[i],by simp [hi'],by simp [hp]⟩,rfl⟩ ⟨st',st.2.1.to fun o e=>sm.extBut a o hne e,sm.extBut tp _ htI st.2.2⟩ fun b o hb e=>sm.extBut b o (fun h=>hb (by simp [h])) e
 done:=fun s Q E st hQ=>zs3 hh st.1 st.2.1 st.2.2 hot (by simp [hsz]) fun h' he=>hQ h' s.toks fun b o hb e=>he b o (fun h=>hb (by simp [h])) e
 self:=fun _ _ _ _ st hQ=>zww st.1 hQ
structure z2m (P:Program) (w:World) (A:Around) (s s':Shared) (a:Addr) (es:Array (Int×Value)) (I:Addr):Prop where
 same:∃ h' d tk,s'={ s with heap:=h',drawn:=d,toks:=tk }
 kp:∀ b o,s.heap.get? b=some o->s'.heap.get? b=some o
 new:s.heap.objs.size<=I
 walk:∃ (ord:Array (Int×Value)) (fp:List Addr) (St:Nat->Heap->Prop),ord.toList.Perm es.toList/\(∀ b∈fp,b=a\/s.heap.objs.size<=b)/\(∀ b∈fp,b<s'.heap.objs.size) /\
  Walks P w A I fp [I] es.size (fun i v=>∃ e,ord[i]?=some e/\v=e.2) St/\St 0 s'.heap
theorem z0a {a:Addr}{es:Array (Int×Value)}{ep:Nat}{t:SetTable}{Q:Value->Shared->Prop} (hh:A.handled=none) (hm:zaw s.heap a es ep t) (T:Tbl w t) (hbd:es.size<=1000000)
  (hQ:∀ I s',z2m P w A s s' a es I->Q (.ref I) s'):wpAny (model P w) A (pyIter (.ref a)) Q E s:=by
 have hT:=hm.ty;obtain ⟨o,ho,hx,hd,hf⟩:=id hm;have lt:=Heap.lt_size ho;refine wpAny_pyIter_slot hT PySem.F.slot_set_iter (wpAny_call_entry PySem.F.slot_set_iter hT z1e ?_ (PySem.F.args_set_iter_1 _));unfold Builtin.«frozenset.__iter__»;refine wpAny_bind ?_;show wpAny _ _ (pure a) _ _ s
 refine wpAny_pure ?_;show wpAny _ _ (Builtin.Frozenset.sizeOf a >>= _) _ _ s
 unfold Builtin.Frozenset.sizeOf;refine wpAny_bind (wpAny_bind (ze2 hm (wpAny_pure ?_)));unfold setDrawn setsByText;refine wpAny_bind (wpAny_bind (wpAny_setState_of ho hd hf ?_));try dsimp only
 refine wpAny_bind (wpAny_bind (wpAny_askSetting (wpAny_pure ?_)));refine wpAny_pure ?_;have step:∀ (slots:Nat->Nat) (ord:Array (Int×Value)),ord.toList.Perm es.toList->slots 0=0->(∀ I:Addr,a≠I->Walks P w A I [I,a] [I] es.size (fun i v=>∃ e,ord[i]?=some e/\v=e.2) (fun i h=>zie h I (rawInt (slots i)) i a es.size ep/\zaw h a es ep t)) ->
   wpAny (model P w) A.in1 (do
    let first <- pure (rawInt 0)
    let e <- setEpoch a
    let v <- newFields "set_iterator" [first,rawInt 0,Value.ref a,rawInt es.size,rawInt e]
    ret v) (fun fin s'=>∃ v,fin=Fin.done (Flow.ret v)/\∃ T' r,s'.TypeIs v T'/\typeLookup (Value.type T') (Str.ofString "__next__")=pure (some r)/\Q v s') E s:=by
  intro slots ord hp h0 W;refine wpAny_bind (wpAny_pure (wpAny_bind (zu3 hm (wpAny_bind (wpAny_newObj_type (wpAny_pure ⟨_,rfl,"set_iterator",_,⟨_,Heap.get?_push_size _ rfl,rfl⟩,zdw.lookup,hQ _ _ ?_⟩))))));refine ⟨⟨_,s.drawn,s.toks,rfl⟩,fun b o e=>Heap.get?_push_of_some _ e,Nat.le_refl _,ord,[s.heap.objs.size,a],_,hp,fun b hb=>?_,fun b hb=>?_,W _ (Nat.ne_of_lt lt),?_⟩
  ·rcases List.mem_cons.mp hb with z|z
   ·exact .inr (Nat.le_of_eq z.symm)
   ·exact .inl (by simpa using z)
  ·rw [Heap.size_push];rcases List.mem_cons.mp hb with z|z
   ·rw [z];exact Nat.lt_succ_self _
   ·have:b=a:=by simpa using z
    rw [this];exact Nat.lt_succ_of_lt lt
  ·rw [h0];exact ⟨⟨_,Heap.get?_push_size _ rfl,rfl,rfl⟩,hm.to fun o e=>Heap.get?_push_of_some _ e⟩
 cases bt:w.params.followText "set-order" with
 |true =>
  rw [if_neg (by rw [show (Setting.params ⟨(model P w).prog,(model P w).w.params⟩).followText "set-order"=true from bt];simp)];have hpp:=zze (w.params.setOrder a ep) es;have hps:(pickOrder (w.params.setOrder a ep) es).size=es.size:=by have:=hpp.length_eq;simpa using this
  refine step (fun _=>0) (pickOrder (w.params.setOrder a ep) es) hpp rfl fun I hI=>zr2 hh I a hI (fun _=>0) hps (fun i hi s2 hm2 A' E' Q' q=>?_) fun s2 hm2 A' E' Q' q=>?_
  ·obtain ⟨o2,ho2,hx2,hd2,hf2⟩:=hm2;refine zsq ho2 hd2 hf2 bt ?_;rw [Array.getElem?_eq_getElem hi];exact q
  ·obtain ⟨o2,ho2,hx2,hd2,hf2⟩:=hm2;refine zsq ho2 hd2 hf2 bt ?_;rw [Array.getElem?_eq_none (by lia)];exact q
 |false =>
  by_cases dr:(!t.plain&&decide (es.size > 1))=true
  ·rw [if_pos (by rw [show (Setting.params ⟨(model P w).prog,(model P w).w.params⟩).followText "set-order"=false from bt];exact dr)];refine wpAny_bind (zlw es.size (List.range es.size) s _ (by simp) fun ys d hp=>?_);have hl:ys.length=es.size:=by have:=hp.length_eq;simpa using this
   have hall:∀ p∈ys,p<es.size:=fun p h=>List.mem_range.mp (hp.mem_iff.mp h);refine wpAny_bind (wpAny_newObj_type ?_ (by show (ys.map fun i:Nat=>rawInt i).toArray.size<=sizeLine;simp [hl];exact Nat.le_trans hbd (by decide)));refine wpAny_bind (zu3 (s:={ s with heap:=s.heap.push _,drawn:=d }) (hm.to fun o e=>Heap.get?_push_of_some _ e) ?_);refine wpAny_bind (wpAny_newObj_type (wpAny_pure ⟨_,rfl,"set_iterator",_,⟨_,Heap.get?_push_size _ rfl,rfl⟩,zdw.lookup,hQ _ _ ?_⟩));have s1:(s.heap.push { cls:=Value.type "tuple",data:=Data.seq (ys.map fun i:Nat=>rawInt i).toArray }).objs.size=s.heap.objs.size+1:=Heap.size_push ..;refine ⟨⟨_,d,s.toks,rfl⟩,fun b o e=>Heap.get?_push_of_some _ (Heap.get?_push_of_some _ e),by rw [s1];exact Nat.le_succ _,(ys.map fun p=>es.getD p (0,.none)).toArray,[s.heap.objs.size+1,a,s.heap.objs.size],(fun i h=>zie h (s.heap.objs.size+1) (.ref s.heap.objs.size) i a es.size ep/\zaw h a es ep t/\h.get? s.heap.objs.size=some { cls:=Value.type "tuple",data:=Data.seq (ys.map fun i:Nat=>rawInt i).toArray }),?_,fun b hb=>?_,fun b hb=>?_,?_,?_⟩
   ·have e:(List.range es.size).map (fun p=>es.getD p (0,.none))=es.toList:=by
     refine List.ext_getElem (by simp) fun i h1 h2=>?_;have h3:i<es.size:=by simpa using h1
     simp [h3]
    rw [<- e];simpa using hp.map fun p=>es.getD p (0,.none)
   ·rcases List.mem_cons.mp hb with z|z
    ·exact .inr (by rw [z];exact Nat.le_succ _)
    ·rcases List.mem_cons.mp z with z|z
     ·exact .inl z
     ·exact .inr (by rw [show b=s.heap.objs.size from by simpa using z];exact Nat.le_refl _)
   ·show b<((s.heap.push _).push _).objs.size
    rw [Heap.size_push,Heap.size_push];rcases List.mem_cons.mp hb with z|z
    ·rw [z];exact Nat.lt_succ_self _
    ·rcases List.mem_cons.mp z with z|z
     ·rw [z];exact Nat.lt_succ_of_lt (Nat.lt_succ_of_lt lt)
     ·have:b=s.heap.objs.size:=by simpa using z
      rw [this];exact Nat.lt_succ_of_lt (Nat.lt_succ_self _)
   ·rw [s1];exact zt3 (t:=t) (ot:={ cls:=Value.type "tuple",data:=Data.seq (ys.map fun i:Nat=>rawInt i).toArray }) (ys:=ys) hh _ a s.heap.objs.size (Nat.ne_of_lt (Nat.lt_succ_of_lt lt)) (Nat.ne_of_lt (Nat.lt_succ_self _)) rfl hl (fun i e=>by
     rw [List.getElem?_toArray,List.getElem?_map,Option.map_eq_some_iff]
     refine exists_congr fun p=>and_congr_right fun hp'=>?_
     have h3:p<es.size:=hall p (List.mem_of_getElem? hp')
     simp [h3]) hall
   ·have gI:∀ O:Obj,O.isFreed=false->((s.heap.push { cls:=Value.type "tuple",data:=Data.seq (ys.map fun i:Nat=>rawInt i).toArray }).push O).get? (s.heap.objs.size+1)=some O:=fun O hO=>by rw [<- s1];exact Heap.get?_push_size _ hO
    exact ⟨⟨_,gI { cls:=.type "set_iterator",data:=.fields #[.ref s.heap.objs.size,rawInt 0,.ref a,rawInt es.size,rawInt ep] } rfl,rfl,rfl⟩,hm.to fun o e=>Heap.get?_push_of_some _ (Heap.get?_push_of_some _ e),Heap.get?_push_of_some _ (Heap.get?_push_size _ rfl)⟩
  ·rw [if_neg (by rw [show (Setting.params ⟨(model P w).prog,(model P w).w.params⟩).followText "set-order"=false from bt];exact dr)];have pl:t.plain=true\/es.size<=1:=by
    rcases Nat.lt_or_ge 1 es.size with z|z
    ·left
     cases hpl:t.plain with
     |true=>rfl
     |false=>exact absurd (by rw [hpl,decide_eq_true z];rfl) dr
    ·exact .inr z
   have hz:t.place.size=es.size:=by
    unfold SetTable.fits at hf;simp at hf
    exact hf.1
   have up:t.place.toList.Pairwise (·<·):=by
    rcases pl with z|z
    ·exact T.up z
    ·have:t.place.toList.length<=1:=by simp;lia
     match t.place.toList,this with
     |[],_=>exact .nil
     |[x],_=>simp
   refine step (slotAt t) es (.refl _) rfl fun I hI=>zr2 hh I a hI (slotAt t) rfl (fun i hi s2 hm2 A' E' Q' q=>?_) fun s2 hm2 A' E' Q' q=>?_
   ·obtain ⟨o2,ho2,hx2,hd2,hf2⟩:=hm2;refine zo6 ho2 hd2 hf2 T bt pl up (Nat.le_of_lt hi) ?_;have hi2:i<t.place.size:=by lia
    rw [Array.getElem?_eq_getElem hi,Array.getElem?_eq_getElem hi2];have e:slotAt t (i+1)=t.place[i]+1:=by
     unfold slotAt;rw [if_neg (by lia),Nat.add_sub_cancel];simp [hi2]
    rw [e] at q;exact q
   ·obtain ⟨o2,ho2,hx2,hd2,hf2⟩:=hm2;refine zo6 ho2 hd2 hf2 T bt pl up (Nat.le_refl _) ?_;rw [Array.getElem?_eq_none (Nat.le_refl _)];exact q
end
section
variable {P:Program}{w:World}{A:Around}{E:Value->Shared->Prop}{s:Shared}
theorem zxw {acc:Array Value}{ord:Array (Int×Value)}{n:Nat} (hz:ord.size=n) (h:ItemsOf (fun i v=>∃ e,ord[i]?=some e/\v=e.2) acc n):acc.toList=ord.toList.map (·.2):=by
 refine List.ext_getElem? fun i=>?_;rcases Nat.lt_or_ge i acc.size with hi|hi
 ·obtain ⟨e,he,hv⟩:=h.2 i acc[i] (by simp [hi]);have e1:acc.toList[i]?=some acc[i]:=by simp [hi]
  rw [e1,hv,List.getElem?_map];have e2:ord.toList[i]?=some e:=by rw [Array.getElem?_toList];exact he
  rw [e2];rfl
 ·rw [List.getElem?_eq_none (by simpa using hi),List.getElem?_eq_none (by have:=h.1;simp;lia)]
theorem zvk {R:Result->Shared->Prop}{a:Addr}{es:Array (Int×Value)}{ep:Nat}{t:SetTable} (hh:A.handled=none) (hm:zaw s.heap a es ep t) (T:Tbl w t) (hbd:es.size<=1000000) (S:Addr) (hSa:S≠a) (res:Value) (c₀:Nat) (hS:s.heap.get? S=some { cls:=.type "list",data:=.seq #[] c₀ })
  (hR:∀ h' d tk acc' c' (ord:Array (Int×Value)),(∀ b o,b≠S->s.heap.get? b=some o->h'.get? b=some o)->h'.get? S=some { cls:=.type "list",dict:=none,data:=.seq acc' c',slots:=#[] }->ord.toList.Perm es.toList->acc'.toList=ord.toList.map (·.2)->R (.ok (.ret res)) { s with heap:=h',drawn:=d,toks:=tk }) :
  wpAny (model P w) A.in1 (Builtin.List.listExtendWith (.ref S) (.ref a) res) (fun fin s'=>match fin with|.done f=>R (.ok f) s'|.again c'=>c'.quiet=true/\codeAny (model P w) A c' R s') (fun e s'=>R (.error e) s') s:=by
 unfold Builtin.List.listExtendWith;refine wpAny_bind (wpAny_typeOf (T:="set") hm.ty ?_);have h1:Builtin.List.listSameRef (.ref S) (.ref a)=false:=by simp [Builtin.List.listSameRef,hSa]
 have h2:(Value.type "set"==Value.type "list")=false:=by decide
 have h3:(Value.type "set"==Value.type "tuple")=false:=by decide
 simp only [h1,h2,h3,Bool.or_false,Bool.false_eq_true,if_false];refine wpAny_bind (z0a (A:=A.in1) (by simpa using hh) hm T hbd fun I s' W=>?_);obtain ⟨⟨h',d,tk,rfl⟩,kp,new,ord,fp,St,hp,fpa,fps,W,st⟩:=W;have hS1:=kp _ _ hS;have hm1:zaw h' a es ep t:=hm.to fun o e=>kp _ _ e;have hSf:S∉fp:=fun z=>by
  rcases fpa S z with u|u
  ·exact hSa u
  ·exact absurd (Heap.lt_size hS) (Nat.not_lt.mpr u)
 have hoz:ord.size=es.size:=by have:=hp.length_eq;simpa using this
 have key:∀ (h2:Heap) (c₁ tk':Nat),St 0 h2->(∀ b o,b≠S->s.heap.get? b=some o->h2.get? b=some o)->h2.get? S=some { cls:=.type "list",data:=.seq #[] c₁ } ->
   codeAny (model P w) A (.builtin "list.extend.loop" ⟨[.ref S,.ref I,res],[]⟩) R { s with heap:=h2,drawn:=d,toks:=tk' }:=by
  intro h2 c₁ tk' st2 k2 hS2;refine codeAny_extend_loopS W.toS (Nat.le_trans hbd (by decide)) S hSf res es.size 0 _ #[] c₁ rfl (Nat.zero_le _) st2 hS2 (ItemsOf.nil _) fun s3 acc' c' mv hS3 hacc=>?_;obtain ⟨h3,g3,d3,t3,os3⟩:=s3;obtain rfl:g3=s.gens:=mv.gens;obtain rfl:d3=d:=mv.drawn;obtain rfl:os3=s.os:=mv.os;refine hR h3 _ t3 acc' c' ord (fun b o hb e=>mv.heap b o (fun z=>?_) (k2 b o hb e)) hS3 hp (zxw hoz hacc);rcases List.mem_cons.mp z with u|u
  ·exact hb u
  ·have:b=I:=by simpa using u
   exact absurd (Heap.lt_size e) (by rw [this];exact Nat.not_lt.mpr new)
 refine wpAny_bind (wpAny_holding (z1g (s:={ s with heap:=h',drawn:=d,toks:=tk }) (zaw.ty (s:={ s with heap:=h',drawn:=d,toks:=tk }) hm1) ?_));refine wpAny_ite_split (fun _=>?_) (fun _=>wpAny_pure ⟨plainId_quiet PySem.F.plain_extend_loop _,key _ c₀ _ st (fun b o _ e=>kp b o e) hS1⟩);refine wpAny_bind (wpAny_rule (wpAny_bind ?_));show wpAny _ _ (updateSeq S (·.push .none) >>= fun _=>updateSeq S (·.pop)) _ _ _
 refine wpAny_bind (wpAny_updateSeq hS1 rfl ?_);have g2:=Heap.get?_update_self (Obj.mapSeq (·.push Value.none)) hS1 rfl;refine wpAny_updateSeq (hz:=by seq_fits) g2 rfl ?_;have g3:=Heap.get?_update_self (Obj.mapSeq (·.pop)) g2 rfl;refine wpAny_pure ⟨plainId_quiet PySem.F.plain_extend_loop _,key _ _ _ ?_ (fun b o hb e=>?_) g3⟩
 ·refine W.frame 0 _ _ st fun b hb o e=>?_;have hbS:b≠S:=fun h=>hSf (h▸hb);rw [Heap.get?_update_ne _ _ _ _ hbS,Heap.get?_update_ne _ _ _ _ hbS];exact e
 ·rw [Heap.get?_update_ne _ _ _ _ hb,Heap.get?_update_ne _ _ _ _ hb];exact kp b o e
theorem ztr {R:List Value->Shared->Prop}{a:Addr}{es:Array (Int×Value)}{ep:Nat}{t:SetTable} (hh:A.handled=none) (hm:zaw s.heap a es ep t) (T:Tbl w t) (hbd:es.size<=1000000)
  (h:∀ (h':Heap) d tk (vs:List Value) (ord:Array (Int×Value)),s.heap.objs.size<h'.objs.size->(∀ b o,s.heap.get? b=some o->h'.get? b=some o)->ord.toList.Perm es.toList->vs=ord.toList.map (·.2)->R vs { s with heap:=h',drawn:=d,toks:=tk }) :
  wpAny (model P w) A (collect (.ref a)) R E s:=by
 obtain ⟨oa,hoa,rest⟩:=id hm;have lt:=Heap.lt_size hoa;unfold collect;refine wpAny_bind (wpAny_runValue (codeAny_builtin entry_proto_collect' ?_));rw [Around.under_plainId PySem.F.plain_proto_collect _];show wpAny _ A.in1 (newList [] >>= fun l=>again (.builtin "list.__iadd__" ⟨[l,.ref a],[]⟩)) _ _ s
 refine wpAny_bind (wpAny_newObj_type (wpAny_pure ⟨plainId_quiet PySem.F.plain_list_iadd _,codeAny_builtin entry_list_iadd' ?_⟩));rw [Around.under_plainId PySem.F.plain_list_iadd _];have hS1:(s.heap.push { cls:=.type "list",data:=.seq ([]:List Value).toArray }).get? s.heap.objs.size=some { cls:=.type "list",data:=.seq #[] }:=Heap.get?_push_size _ rfl;show wpAny _ A.in1 (Builtin.List.listExtendWith (.ref s.heap.objs.size) (.ref a) (.ref s.heap.objs.size)) _ _ _
 have key:=zvk (P:=P) (w:=w) (A:=A) (s:={ s with heap:=s.heap.push { cls:=.type "list",data:=.seq ([]:List Value).toArray } }) (R:=fun (q:Result) (s':Shared)=>∃ (h':Heap) (d:Drawn) (tk:Nat) (acc':Array Value) (c':Nat) (ord:Array (Int×Value)),q=.ok (.ret (.ref s.heap.objs.size))/\s'={ s with heap:=h',drawn:=d,toks:=tk }/\(∀ b o,s.heap.get? b=some o->h'.get? b=some o)/\h'.get? s.heap.objs.size=some { cls:=.type "list",dict:=none,data:=.seq acc' c',slots:=#[] }/\ord.toList.Perm es.toList/\acc'.toList=ord.toList.map (·.2))
  hh (hm.to fun o e=>Heap.get?_push_of_some _ e) T hbd s.heap.objs.size (Nat.ne_of_gt lt) (.ref s.heap.objs.size) 0 hS1
  (fun h' d tk acc' c' ord hk hS' hp ha=>⟨h',d,tk,acc',c',ord,rfl,rfl,fun b o e=>hk b o (Nat.ne_of_lt (Heap.lt_size e)) (Heap.get?_push_of_some _ e),hS',hp,ha⟩)
 have fin:∀ (q:Result) (s':Shared),(∃ (h':Heap) (d:Drawn) (tk:Nat) (acc':Array Value) (c':Nat) (ord:Array (Int×Value)),q=.ok (.ret (.ref s.heap.objs.size))/\s'={ s with heap:=h',drawn:=d,toks:=tk }/\(∀ b o,s.heap.get? b=some o->h'.get? b=some o)/\h'.get? s.heap.objs.size=some { cls:=.type "list",dict:=none,data:=.seq acc' c',slots:=#[] }/\ord.toList.Perm es.toList/\acc'.toList=ord.toList.map (·.2))->True:=fun _ _ _=>trivial;refine wpAny_mono key (fun fi s' x=>?_) fun e s' x=>?_
 ·cases fi with
  |done f =>
   obtain ⟨h',d,tk,acc',c',ord,e,rfl,hk,hS',hp,ha⟩:=x;cases e
   show wpAny _ A (load s.heap.objs.size >>= _) _ _ _
   refine wpAny_bind (wpAny_load hS' ?_);exact wpAny_pure (h h' d tk acc'.toList ord (Heap.lt_size hS') hk hp ha)
  |again c' =>
   obtain ⟨x1,x2⟩:=x;refine ⟨x1,codeAny_mono x2 fun q s'' y=>?_⟩;obtain ⟨h',d,tk,acc',c',ord,rfl,rfl,hk,hS',hp,ha⟩:=y;show wpAny _ A (load s.heap.objs.size >>= _) _ _ _
   refine wpAny_bind (wpAny_load hS' ?_);exact wpAny_pure (h h' d tk acc'.toList ord (Heap.lt_size hS') hk hp ha)
 ·obtain ⟨_,_,_,_,_,_,e',_⟩:=x;cases e'
theorem zy1 {l m:List (Int×Value)} (h:l.Perm m):∀ {ns:List Int},IntsAre (m.map (·.2)) ns->∃ ns',IntsAre (l.map (·.2)) ns'/\ns'.Perm ns:=by
 induction h with
 |nil=>intro ns h;exact ⟨ns,h,.refl _⟩
 |cons x _ ih =>
  intro ns h;rw [List.map_cons] at h ⊢;generalize x.2=v at h ⊢;cases h with
  |cons n t r =>
   obtain ⟨ns',h1,h2⟩:=ih r;exact ⟨n::ns',.cons n t h1,.cons n h2⟩
 |swap x y l =>
  intro ns h;rw [List.map_cons,List.map_cons] at h ⊢;generalize x.2=v at h ⊢;generalize y.2=u at h ⊢;cases h with
  |cons n t r =>
   cases r with
   |cons n' t' r=>exact ⟨n'::n::_,.cons n' t' (.cons n t r),.swap ..⟩
 |trans _ _ ih1 ih2 =>
  intro ns h;obtain ⟨ns1,a1,a2⟩:=ih2 h;obtain ⟨ns2,b1,b2⟩:=ih1 a1;exact ⟨ns2,b1,b2.trans a2⟩
theorem zvt {a:Addr}{es:Array (Int×Value)}{ep:Nat}{t:SetTable}{ns:List Int}{Q:Value->Shared->Prop} (hh:A.handled=none) (hm:zaw s.heap a es ep t) (T:Tbl w t) (h64:es.size<64) (hI:IntsAre (es.toList.map (·.2)) ns)
  (h:∀ h' d tk (out:Array Value) (ns':List Int) (D:Addr) (c:Nat),s.heap.objs.size<=D->(∀ b o,s.heap.get? b=some o->h'.get? b=some o)->h'.get? D=some { cls:=.type "list",data:=.seq out c }->IntsAre out.toList ns'->ns'.Perm ns->ns'.Pairwise (·<=·)->Q (.ref D) { s with heap:=h',drawn:=d,toks:=tk }) :
  wpAny (model P w) A (call (.builtin "sorted") [.ref a]) Q E s:=by
 refine Calls.call_function_entry kind_sorted plain_sorted entry_sorted (args_sorted1 _) ?_;unfold Builtin.«sorted»;refine wpAny_bind (m:=checkCount "sorted" 1 1 _) (wpAny_pure ?_);refine wpAny_bind (ztr (A:=A.in1) (by simpa using hh) hm T (by lia) fun h' d tk vs ord lts kp hp hv=>?_);have hl:vs.length=es.size:=by rw [hv,List.length_map];have:=hp.length_eq;simpa using this
 obtain ⟨ns2,hI2,hp2⟩:=zy1 hp hI;rw [<- hv] at hI2;refine wpAny_bind (wpAny_newList ?_ (by rw [hl];exact Nat.le_trans (Nat.le_of_lt h64) (by decide)));have hoL:(h'.push (seqObj "list" vs.toArray 0)).get? h'.objs.size=some (seqObj "list" vs.toArray 0):=Heap.get?_push_size _ rfl;refine wpAny_bind (wpAny_holding (wpAny_call_entry slot_list_sort ⟨_,hoL,rfl⟩ entry_list_sort (list_sort_tree hoL hI2 (by lia) fun out ns' a1 a2 a3=>⟨_,rfl,?_⟩) (args_list_sort _)));refine wpAny_pure ⟨_,rfl,?_⟩;obtain ⟨c,hc⟩:=sortedHeap_at (out:=out) hoL;refine h _ d _ out ns' h'.objs.size c ?_ (fun b o e=>?_) hc a1 (a2.trans hp2) a3
 ·exact Nat.le_of_lt lts
 ·have lt:=Heap.lt_size (kp b o e);rw [sortedHeap_old (Nat.ne_of_lt lt) (by rw [size_push'];exact Nat.lt_succ_of_lt lt)];exact Heap.get?_push_of_some _ (kp b o e)
end
end L2
namespace Lf
theorem zo7 (row:List Int):∀ ps xs:List Int,ps.length=xs.length->fits row ps xs=decide (picks row ps=xs)
 |[],[],_=>rfl
 |[],_::_,h=>by simp at h
 |_::_,[],h=>by simp at h
 |p::ps,x::xs,h=>by
  have ih:=zo7 row ps xs (by simpa using h);unfold fits at ih ⊢;unfold picks at ih ⊢;rw [List.zip_cons_cons,List.all_cons,ih,List.map_cons];by_cases e:row.getD p.toNat 0=x
  ·subst e;simp
  ·simp only [decide_eq_false e,Bool.false_and,List.cons.injEq,e,false_and,decide_false]
theorem zhr (row ps xs:List Int):stands row ps xs=(rising (-1) row.length ps&&decide (picks row ps=xs)):=by
 by_cases h:ps.length=xs.length
 ·rw [zzi _ _ _ h,zo7 _ _ _ h]
 ·have e:¬ picks row ps=xs:=fun z=>h (by rw [<- z];unfold picks;simp);unfold stands;rw [decide_eq_false h,decide_eq_false e,Bool.and_false,Bool.false_and]
theorem zn9 (row:List Int):∀ (r o ps:List Int) (i:Nat),r=row.drop i->i<=row.length->ps.length<o.length->jw row ((i:Int)-1) ps (o.take ps.length)=true ->
  (∀ j,j<=ps.length->o.getD j 0∉cut row (bAt i ps j) ((ps++[(row.length:Int)]).getD j 0))->zh9 i r o=ps
 |[],o,[],i,h,hi,hl,hs,hc=>zdv _ _
 |[],[],p::ps,i,h,hi,hl,hs,hc=>by simp at hl
 |[],y::o,p::ps,i,h,hi,hl,hs,hc=>by
  have hr:row.length<=i:=by
   rcases Nat.lt_or_ge i row.length with q|q
   ·rw [zqo q] at h;cases h
   ·exact q
  rw [List.length_cons,List.take_succ_cons,jw] at hs;simp only [Bool.and_eq_true,decide_eq_true_eq] at hs;lia
 |x::r,[],ps,i,h,hi,hl,hs,hc=>by simp at hl
 |x::r,y::o,ps,i,h,hi,hl,hs,hc=>by
  obtain ⟨hi',hx,hr⟩:=zhc h;have ec:((i:Int)+1)=((i+1:Nat):Int):=by lia
  by_cases e:x=y
  ·rw [zh9,if_pos e];have here:∀ e:Int,(i:Int)<e->y∈cut row i e:=fun e' he=>by
    rw [zq0 hi' he,hx,e];exact List.mem_cons_self
   cases ps with
   |nil=>exact absurd (here _ (by simp;lia)) (hc 0 (Nat.zero_le _))
   |cons p ps =>
    rw [List.length_cons,List.take_succ_cons,jw] at hs;simp only [Bool.and_eq_true,decide_eq_true_eq] at hs;obtain ⟨⟨⟨h1,h2⟩,h3⟩,h4⟩:=hs;have hp:p=(i:Int):=by
     rcases Int.lt_or_le (i:Int) p with q|q
     ·exact absurd (here p q) (hc 0 (Nat.zero_le _))
     ·lia
    subst hp;rw [ec];congr 1
    refine zn9 row r o ps (i+1) hr (by omega) (by simpa using hl) (by rw [show ((i+1:Nat):Int)-1=i from by omega];exact h4) fun j hj=>?_;have:=hc (j+1) (by simpa using hj);have b1:bAt i ((i:Int)::ps) (j+1)=bAt ((i+1:Nat):Int) ps j:=by
     unfold bAt;rw [if_neg (by lia)];cases j with
     |zero=>simp
     |succ j=>simp
    rw [b1] at this;simpa using this
  ·rw [zh9,if_neg e,ec];refine zn9 row r (y::o) ps (i+1) hr (by lia) hl ?_ fun j hj=>?_
   ·cases ps with
    |nil=>rfl
    |cons p ps =>
     rw [List.length_cons,List.take_succ_cons,jw] at hs ⊢;simp only [Bool.and_eq_true,decide_eq_true_eq] at hs ⊢;obtain ⟨⟨⟨h1,h2⟩,h3⟩,h4⟩:=hs;refine ⟨⟨⟨?_,h2⟩,h3⟩,h4⟩;have:p≠(i:Int):=fun q=>e (by rw [<- h3,q,Int.toNat_natCast,hx]);lia
   ·have q:=hc j hj;cases j with
    |succ j=>exact q
    |zero =>
     have b0:bAt i ps 0=i:=rfl;have b1:bAt ((i+1:Nat):Int) ps 0=((i+1:Nat):Int):=rfl;rw [b0] at q;rw [b1];intro m;refine q ?_;rcases Int.lt_or_le (i:Int) ((ps++[(row.length:Int)]).getD 0 0) with u|u
     ·rw [zq0 hi' u,ec];exact List.mem_cons_of_mem _ m
     ·rw [zmr (by lia)] at m;simp at m
theorem zop {row other ps:List Int} (h:short row other ps=true):ps=yu row other:=by
 obtain ⟨h1,h2,h3⟩:=zjj h;unfold stands at h2;rw [Bool.and_eq_true] at h2;refine (zn9 row row other ps 0 (by simp) (Nat.zero_le _) h1 h2.2 fun j hj=>?_).symm;have:=h3 j hj;have e:bAt ((0:Nat):Int) ps j=zcg ps j:=by unfold bAt zcg;rfl
 rw [e];exact this
theorem zu1 (row other ps:List Int):short row other ps=(decide (ps.length<other.length)&&decide (ps=yu row other)):=by
 by_cases h:short row other ps=true
 ·rw [h,decide_eq_true (zjj h).1,decide_eq_true (zop h)];rfl
 ·rw [Bool.eq_false_iff.mpr h];by_cases h1:ps.length<other.length
  ·by_cases h2:ps=yu row other
   ·subst h2;exact absurd (zoj (by lia)) h
   ·rw [decide_eq_false h2,Bool.and_false]
  ·rw [decide_eq_false h1,Bool.false_and]
end Lf
namespace L2
open PySem PySem.Spec PyProof.Rows
section
variable {σ:St}{H H':Hp}{Q:VK}{D:Ends}{K:PySem.W.Frag}{X:Cx}{tg:Expr}
theorem z8d {f:Int->Int->Int}{i j:Int} (h:Q (.int (f i j)) H):ipI f (.int i) (.int j) H Q:=⟨i,j,rfl,rfl,h⟩
theorem zn7 {c:TT}{tb:TS} (W:Nat->St->Hp->Prop) (m:Nat) (h0:W m σ H) (hs:∀ m σ H,W m σ H->c σ H fun b H1=>if b=true then ∃ N:St->Hp->Prop,(∀ σ' H',N σ' H'->∃ m',m'<m/\W m' σ' H')/\tb { D with nx:=N,ct:=N,bk:=D.nx } σ H1 else D.nx σ H1):z2i c tb D σ H:=⟨W,⟨m,h0⟩,hs⟩
theorem zsc {W:Nat->St->Hp->Prop}{m:Nat}{tb:TS} (h:tb { D with nx:=fun σ' H'=>∃ m',m'<m/\W m' σ' H',ct:=fun σ' H'=>∃ m',m'<m/\W m' σ' H',bk:=D.nx } σ H):∃ N:St->Hp->Prop,(∀ σ' H',N σ' H'->∃ m',m'<m/\W m' σ' H')/\tb { D with nx:=N,ct:=N,bk:=D.nx } σ H:=⟨_,fun _ _ z=>z,h⟩
noncomputable def z4z (K:PySem.W.Frag) (xs:List V) (H:Hp) (Q:VK):Prop:=∃ (p:Addr) (ns:List Int),xs=[.ref p]/\SqL K H p (ns.map V.int)/\ns≠[]/\∀ M,M∈ns->(∀ a∈ns,a<=M)->Q (.int M) H
theorem zw8 (hc:X.calm=true):zca X (.builtin "max") (z4z X.K):=by
 intro pins s σ H xs us Q I r h;obtain ⟨p,ns,rfl,hq,hne,q⟩:=h;obtain ⟨u,rfl,ru⟩:=vals1 r;cases ru
 obtain ⟨its,rv,pl,hz⟩:=I.list hq;have hi:=intsAre_of rv;obtain ⟨ps,e⟩:=hi.allInts.items;have en:ns=ps.toList.map (·.1):=by
  have e2:=nums_intItems ps;rw [<- e] at e2;exact hi.numsOf.symm.trans e2
 have hsz:0<ps.size:=by
  rcases Nat.eq_zero_or_pos ps.size with z|z
  ·exfalso
   apply hne
   rw [en,List.map_eq_nil_iff,<- List.length_eq_zero_iff,Array.length_toList,z]
  ·exact z
 have pl2:=pl.isList;rw [e] at pl2;refine max_intList (I.ok.hd hc) pl2 hsz fun v h' tk hv kp=>?_;obtain ⟨t,rfl⟩:=intItems_at hv;obtain ⟨b1,b2⟩:=argBest_gt (numAt ps) (ps.size-1);have len:(ps.toList.map (·.1)).length=ps.size:=by rw [List.length_map,Array.length_toList]
 refine ⟨.int _,H,I.kept (t':=tk) kp,⟨_,rfl⟩,q _ ?_ fun a ha=>?_⟩
 ·rw [numAt_eq,<- en];refine PySem.getD_mem ?_;rw [en,len];lia
 ·rw [en] at ha;obtain ⟨j,hj,rfl⟩:=PySem.mem_getD ha;rw [len] at hj;rw [<- numAt_eq];exact b2 j (by lia)
theorem z45 {p:Addr}{ns:List Int}{M:Int} (hs:SqL K H p (ns.map V.int)) (h1:M∈ns) (h2:∀ a∈ns,a<=M) (h:Q (.int M) H):z4z K [.ref p] H Q:=⟨p,ns,rfl,hs,List.ne_nil_of_mem h1,fun N a b=>by
 have e:N=M:=by have:=b M h1;have:=h2 N a;lia
 rw [e];exact h⟩
end
end L2
namespace Lf
noncomputable def zzn (one other:List Int) (tb:List (List Int)) (i j:Nat):List Int :=
 [0]++(if 0<i then [tg tb (i-1) j] else [])++(if 0<j then [tg tb i (j-1)] else [])++(if 0<i/\0<j/\one.getD (i-1) 0=other.getD (j-1) 0 then [tg tb (i-1) (j-1)+1] else [])
noncomputable def z1m:List Int->Int
 |[]=>0
 |[x]=>x
 |x::y::r=>if z1m (y::r)<=x then x else z1m (y::r)
theorem zw7:∀ (l:List Int),∀ a∈l,a<=z1m l
 |[],a,h=>by simp at h
 |[x],a,h=>by simp at h;subst h;exact Int.le_refl _
 |x::y::r,a,h=>by
  have ih:=zw7 (y::r);rw [z1m];rcases List.mem_cons.mp h with e|h
  ·subst e;split<;>lia
  ·have:=ih a h;split<;>lia
theorem zug:∀ (l:List Int),l≠[]->z1m l∈l
 |[],h=>absurd rfl h
 |[x],_=>by simp [z1m]
 |x::y::r,_=>by
  have ih:=zug (y::r) (by simp);rw [z1m];split
  ·simp
  ·exact List.mem_cons_of_mem _ ih
noncomputable def bnd (one other:List Int) (tb:List (List Int)) (i j:Nat):Int:=z1m (zzn one other tb i j)
theorem zdn {one other:List Int}{tb:List (List Int)}{i j:Nat}{a:Int}:a∈zzn one other tb i j↔a=0\/(0<i/\a=tg tb (i-1) j)\/(0<j/\a=tg tb i (j-1))\/(0<i/\0<j/\one.getD (i-1) 0=other.getD (j-1) 0/\a=tg tb (i-1) (j-1)+1):=by
 unfold zzn;by_cases h1:0<i<;>by_cases h2:0<j<;>by_cases h3:one.getD (i-1) 0=other.getD (j-1) 0<;>simp [h1,h2,h3,or_assoc]
theorem z3j {one other:List Int}{tb:List (List Int)}{i j:Nat}:zzn one other tb i j≠[]:=fun e=>by
 have:(0:Int)∈zzn one other tb i j:=zdn.mpr (.inl rfl);rw [e] at this;simp at this
theorem znc {one other:List Int}{tb:List (List Int)}{i j:Nat}:bnd one other tb i j∈zzn one other tb i j:=zug _ z3j
theorem zsz {one other:List Int}{tb:List (List Int)}{i j:Nat}{a:Int} (h:a∈zzn one other tb i j):a<=bnd one other tb i j:=zw7 _ a h
theorem zue {one other:List Int}{tb tb':List (List Int)}{i j:Nat} (h1:0<i->tg tb (i-1) j=tg tb' (i-1) j) (h2:0<j->tg tb i (j-1)=tg tb' i (j-1)) (h3:0<i->0<j->tg tb (i-1) (j-1)=tg tb' (i-1) (j-1)):bnd one other tb i j=bnd one other tb' i j:=by
 unfold bnd;congr 1
 unfold zzn;by_cases q1:0<i<;>by_cases q2:0<j<;>simp [q1,q2]
 ·simp [h1 q1,h2 q2,h3 q1 q2]
 ·exact h1 q1
 ·exact h2 q2
theorem zx3 {one other:List Int}{tb:List (List Int)} (h1:tb.length=one.length+1) (h2:∀ i,i<=one.length->(tb.getD i []).length=other.length+1) :
  TabOk one other tb↔∀ i j,i<=one.length->j<=other.length->bnd one other tb i j<=tg tb i j:=by
 constructor
 ·intro T i j hi hj;rcases zdn.mp (znc (one:=one) (other:=other) (tb:=tb) (i:=i) (j:=j)) with q|⟨q,e⟩|⟨q,e⟩|⟨q1,q2,q3,e⟩
  ·rw [q];exact zk8 T _ i j rfl hi hj
  ·rw [e];exact (T.all i j hi hj).up q
  ·rw [e];exact (T.all i j hi hj).lf q
  ·rw [e];have:=(T.all i j hi hj).dg q1 q2 q3;lia
 ·intro h;refine ⟨h1,?_,h2,fun i j hi hj=>⟨fun q=>?_,fun q=>?_,fun q1 q2 q3=>?_⟩⟩
  ·exact Int.le_trans (zsz (zdn.mpr (.inl rfl))) (h 0 0 (Nat.zero_le _) (Nat.zero_le _))
  ·exact Int.le_trans (zsz (zdn.mpr (.inr (.inl ⟨q,rfl⟩)))) (h i j hi hj)
  ·exact Int.le_trans (zsz (zdn.mpr (.inr (.inr (.inl ⟨q,rfl⟩))))) (h i j hi hj)
  ·have:=Int.le_trans (zsz (zdn.mpr (.inr (.inr (.inr ⟨q1,q2,q3,rfl⟩))))) (h i j hi hj);lia
structure LT (one other:List Int) (tb:List (List Int)):Prop where
 len:tb.length=one.length+1
 lens:∀ i,i<=one.length->(tb.getD i []).length=other.length+1
 eq:∀ i j,i<=one.length->j<=other.length->tg tb i j=bnd one other tb i j
theorem LT.zero {one other:List Int}{tb:List (List Int)} (L:LT one other tb):∀ (n i j:Nat),i+j=n->i<=one.length->j<=other.length->(i=0\/j=0)->tg tb i j=0
 |0,i,j,hn,hi,hj,h=>by
  have e1:i=0:=by lia
  have e2:j=0:=by lia
  subst e1;subst e2;rw [L.eq 0 0 hi hj];rcases zdn.mp (znc (one:=one) (other:=other) (tb:=tb) (i:=0) (j:=0)) with q|⟨q,e⟩|⟨q,e⟩|⟨q1,q2,q3,e⟩<;>lia
 |n+1,i,j,hn,hi,hj,h=>by
  rw [L.eq i j hi hj];rcases zdn.mp (znc (one:=one) (other:=other) (tb:=tb) (i:=i) (j:=j)) with q|⟨q,e⟩|⟨q,e⟩|⟨q1,q2,q3,e⟩
  ·exact q
  ·rw [e];exact L.zero n (i-1) j (by lia) (by lia) hj (by lia)
  ·rw [e];exact L.zero n i (j-1) (by lia) hi (by lia) (by lia)
  ·lia
theorem LT.pos {one other:List Int}{tb:List (List Int)} (L:LT one other tb) {i j:Nat} (hi:i<=one.length) (hj:j<=other.length) (h:0<tg tb i j):0<i/\0<j:=by
 constructor
 ·rcases Nat.eq_zero_or_pos i with q|q
  ·have:=L.zero _ i j rfl hi hj (.inl q);lia
  ·exact q
 ·rcases Nat.eq_zero_or_pos j with q|q
  ·have:=L.zero _ i j rfl hi hj (.inr q);lia
  ·exact q
theorem LT.diag {one other:List Int}{tb:List (List Int)} (L:LT one other tb) {i j:Nat} (hi:i<=one.length) (hj:j<=other.length) (h:0<tg tb i j) (h1:¬ tg tb (i-1) j=tg tb i j) (h2:¬ tg tb i (j-1)=tg tb i j) :
  one.getD (i-1) 0=other.getD (j-1) 0/\tg tb i j=tg tb (i-1) (j-1)+1:=by
 have e0:=L.eq i j hi hj;rcases zdn.mp (znc (one:=one) (other:=other) (tb:=tb) (i:=i) (j:=j)) with q|⟨q,e⟩|⟨q,e⟩|⟨q1,q2,q3,e⟩
 ·lia
 ·exact absurd (by lia) h1
 ·exact absurd (by lia) h2
 ·exact ⟨q3,by lia⟩
structure AP (one other:List Int) (a b:Int) (ps:List (Int×Int)):Prop where
 mine:rising a one.length (ps.map (·.1))=true
 theirs:rising b other.length (ps.map (·.2))=true
 alike:∀ p∈ps,one.getD p.1.toNat 0=other.getD p.2.toNat 0
theorem zo1:∀ (ps:List Int) (a a' c:Int),a'<=a->rising a c ps=true->rising a' c ps=true
 |[],_,_,_,_,_=>rfl
 |p::ps,a,a',c,h,e=>by
  rw [rising] at e ⊢;simp only [Bool.and_eq_true,decide_eq_true_eq] at e ⊢;exact ⟨⟨by lia,e.1.2⟩,e.2⟩
theorem AP.low {one other:List Int}{a b a' b':Int}{ps:List (Int×Int)} (A:AP one other a b ps) (h1:a'<=a) (h2:b'<=b):AP one other a' b' ps:=⟨zo1 _ _ _ _ h1 A.mine,zo1 _ _ _ _ h2 A.theirs,A.alike⟩
theorem AP.cons {one other:List Int}{ps:List (Int×Int)}{x y a b:Int} (A:AP one other x y ps) (h1:a<x) (h2:b<y) (h3:x<one.length) (h4:y<other.length) (h:one.getD x.toNat 0=other.getD y.toNat 0):AP one other a b ((x,y)::ps):=by
 refine ⟨?_,?_,fun p hp=>?_⟩
 ·rw [List.map_cons,rising,decide_eq_true h1,decide_eq_true h3];exact A.mine
 ·rw [List.map_cons,rising,decide_eq_true h2,decide_eq_true h4];exact A.theirs
 ·rcases List.mem_cons.mp hp with e|e
  ·subst e;exact h
  ·exact A.alike p e
theorem zrg {row ps:List Int} (h:rising (-1) row.length ps=true):stands row ps (picks row ps)=true:=by
 rw [zhr,h,decide_eq_true rfl];rfl
theorem zqi {n:Nat}{ps:List Int} (h:rising (-1) n ps=true):inside n ps=true:=by
 unfold inside;rw [Bool.not_eq_true',List.any_eq_false];intro p hp;have:=ze8 ps _ _ h p hp;rw [decide_eq_true (by lia:0<=p),decide_eq_true this.2];decide
theorem z34 (one other mine theirs:List Int) (tb:List (List Int)):long one other mine theirs tb=(rising (-1) one.length mine&&stands other theirs (picks one mine)&&(tab one other tb&&decide (zqy tb=(mine.length:Int)))):=by
 unfold long;by_cases h:rising (-1) one.length mine=true
 ·rw [h,zqi h,zrg h];cases stands other theirs (picks one mine)<;>cases tab one other tb<;>simp
 ·have e:stands one mine (picks one mine)=false:=by
   rw [zhr,Bool.eq_false_iff.mpr h,Bool.false_and]
  rw [e,Bool.eq_false_iff.mpr h];simp
structure LTp (one other:List Int) (tb:List (List Int)) (i j:Nat):Prop where
 len:tb.length=i+1
 lens:∀ k,k<i->(tb.getD k []).length=other.length+1
 last:(tb.getD i []).length=j
 eq:∀ k l,k<=i->(k<i->l<=other.length)->(k=i->l<j)->tg tb k l=bnd one other tb k l
theorem z1w {tb:List (List Int)}{i k l:Nat}{line:List Int} (hi:i<tb.length):tg (tb.set i line) k l=if k=i then line.getD l 0 else tg tb k l:=by
 unfold tg;by_cases h:k=i
 ·subst h;rw [if_pos rfl,zvb hi]
 ·rw [if_neg h];congr 1
  rw [List.getD_eq_getElem?_getD,List.getElem?_set_ne (fun z=>h z.symm),<- List.getD_eq_getElem?_getD]
theorem zuc {l:List Int}{v:Int}{k:Nat}:(l++[v]).getD k 0=if k=l.length then v else l.getD k 0:=by
 by_cases h:k=l.length
 ·subst h;rw [if_pos rfl];simp
 ·rw [if_neg h];rcases Nat.lt_or_ge k l.length with q|q
  ·rw [List.getD_eq_getElem?_getD,List.getElem?_append_left q,<- List.getD_eq_getElem?_getD]
  ·rw [List.getD_eq_getElem?_getD,List.getD_eq_getElem?_getD,List.getElem?_eq_none (by simp;lia),List.getElem?_eq_none q]
theorem LTp.step {one other:List Int}{tb:List (List Int)}{i j:Nat} (L:LTp one other tb i j) (hj:j<=other.length):LTp one other (tb.set i (tb.getD i []++[bnd one other tb i j])) i (j+1):=by
 have hi:i<tb.length:=by have:=L.len;lia
 have e:∀ k l,(k=i->l<j)->tg (tb.set i (tb.getD i []++[bnd one other tb i j])) k l=tg tb k l:=fun k l h=>by
  rw [z1w hi];by_cases q:k=i
  ·rw [if_pos q,zuc,if_neg (by have:=h q;have:=L.last;lia)];subst q;rfl
  ·rw [if_neg q]
 refine ⟨by rw [List.length_set];exact L.len,fun k hk=>?_,?_,fun k l hk h1 h2=>?_⟩
 ·rw [List.getD_eq_getElem?_getD,List.getElem?_set_ne (by lia),<- List.getD_eq_getElem?_getD];exact L.lens k hk
 ·rw [zvb hi,List.length_append,L.last];rfl
 ·have eb:bnd one other (tb.set i (tb.getD i []++[bnd one other tb i j])) k l=bnd one other tb k l:=zue (fun q=>e _ _ (by lia)) (fun q=>e _ _ (by lia)) (fun q q'=>e _ _ (by lia));rw [eb];by_cases q:k=i/\l=j
  ·obtain ⟨rfl,rfl⟩:=q;rw [z1w hi,if_pos rfl,zuc,if_pos L.last.symm]
  ·have h3:k=i->l<j:=fun z=>by have:=h2 z;lia
   rw [e k l h3];exact L.eq k l hk h1 h3
theorem LTp.line {one other:List Int}{tb:List (List Int)}{i:Nat} (L:LTp one other tb i (other.length+1)):LTp one other (tb++[[]]) (i+1) 0:=by
 have g:∀ k,k<tb.length->(tb++[[]]).getD k []=tb.getD k []:=fun k hk=>by
  rw [List.getD_eq_getElem?_getD,List.getElem?_append_left hk,<- List.getD_eq_getElem?_getD]
 have e:∀ k l,k<=i->tg (tb++[[]]) k l=tg tb k l:=fun k l hk=>by
  unfold tg;rw [g k (by have:=L.len;lia)]
 refine ⟨by rw [List.length_append,L.len];rfl,fun k hk=>?_,?_,fun k l hk h1 h2=>?_⟩
 ·rw [g k (by have:=L.len;lia)];rcases Nat.lt_or_ge k i with q|q
  ·exact L.lens k q
  ·have:k=i:=by lia
   subst this;exact L.last
 ·rw [List.getD_eq_getElem?_getD,List.getElem?_append_right (by have:=L.len;lia),L.len];simp
 ·have hk':k<=i:=by
   rcases Nat.lt_or_ge k (i+1) with q|q
   ·lia
   ·have:=h2 (by lia);lia
  have eb:bnd one other (tb++[[]]) k l=bnd one other tb k l:=zue (fun q=>e _ _ (by lia)) (fun q=>e _ _ (by lia)) (fun q q'=>e _ _ (by lia));rw [eb,e k l hk'];exact L.eq k l hk' (fun q=>h1 (by lia)) fun q=>by have:=h1 (by lia);lia
theorem LTp.start (one other:List Int):LTp one other [[]] 0 0:=⟨rfl,fun k hk=>by lia,rfl,fun k l hk h1 h2=>by have:=h2 (by lia);lia⟩
theorem LTp.done {one other:List Int}{tb:List (List Int)} (L:LTp one other tb one.length (other.length+1)):LT one other tb:=by
 refine ⟨L.len,fun i hi=>?_,fun i j hi hj=>L.eq i j hi (fun _=>hj) fun _=>by lia⟩;rcases Nat.lt_or_ge i one.length with q|q
 ·exact L.lens i q
 ·have:i=one.length:=by lia
  subst this;exact L.last
end Lf
namespace L2
open PySem PySem.Spec PyProof.Rows
theorem zdf {α:Type}{J:It}{l:List α}{kp:Hp->Prop}{rep:α->V->Hp->Hp->Prop} (O:Ov J l kp rep) {g:TG}{ti:TT}{te:TE}{k:Nat}{caps:List Nat}{σ:St}{H1:Hp}{Q:VK}
  (o:α->HO) (hk:∀ H,Same H1 H->kp H) (hl:l.length<=1000000)
  (turn:∀ (i:Nat) y x H3 H4 (R:V->Hp->Prop) (R':Hp->Prop),l[i]?=some y->Same H1 H3->rep y x H3 H4->(∀ a H7,Same H3 H7->H3 a=none->H7 a=some (o y)->R (.ref a) H7) ->
   g x (inner k caps σ) H4 fun σ4 H5=>(σ4.length=(inner k caps σ).length/\σ4.drop k=(inner k caps σ).drop k)/\ti σ4 H5 fun b H6=>if b=true then te σ4 H6 R else R' H6)
  (fin:∀ (D:Addr) (H':Hp) (ls:List Addr),H1 D=none->Same H1 H'->H' D=some (.lst (ls.map V.ref))->ls.length=l.length->ls.Nodup->D∉ls->(∀ a∈ls,H1 a=none)->(∀ (i:Nat) a,ls[i]?=some a->∃ y,l[i]?=some y/\H' a=some (o y))->Q (.ref D) H') :
  zes J g ti te k caps σ Q H1:=by
 intro D hD;refine ⟨fun i m ys H=>m=l.length-i/\i<=l.length/\Same H1 H/\H D=some (.lst ys)/\∃ ls:List Addr,ys=ls.map V.ref/\ls.length=i/\ls.Nodup/\D∉ls/\(∀ a∈ls,H1 a=none)/\(∀ (i:Nat) a,ls[i]?=some a->∃ y,l[i]?=some y/\H a=some (o y)),⟨l.length,by simp,Nat.zero_le _,Same.upd_new hD,zb,[],rfl,rfl,.nil,by simp,by simp,by simp⟩,?_⟩;rintro i m ys H2 ⟨rfl,hi,s2,d2,ls,rfl,ll,nd,nD,fr,at'⟩;refine ⟨d2,?_⟩;by_cases hlt:i<l.length
 ·refine .inr ⟨O.go i H2 (hk _ s2) hlt,by rw [List.length_map,ll];exact Nat.lt_of_lt_of_le (Nat.lt_of_lt_of_le hlt hl) (by decide),fun x H3 y3=>?_⟩;have e:l[i]?=some l[i]:=by simp [hlt]
  refine turn i _ x H2 H3 _ _ e s2 (O.yld i H2 x H3 _ (hk _ s2) e y3) (fun a H7 s7 ha2 ha7=>?_);have aD:a≠D:=fun z=>by rw [z,d2] at ha2;cases ha2
  have als:a∉ls:=fun z=>by
   obtain ⟨n,hn⟩:=List.getElem?_of_mem z;obtain ⟨y,_,q⟩:=at' n a hn;rw [ha2] at q;cases q
  refine ⟨s7 _ _ d2,l.length-(i+1),by lia,rfl,hlt,?_,zb,ls++[a],by rw [List.map_append];rfl,by rw [List.length_append,ll];rfl,?_,?_,?_,?_⟩
  ·intro b u eb;rw [qz (zj eb hD)];exact s7 _ _ (s2 _ _ eb)
  ·rw [List.nodup_append];refine ⟨nd,by simp,fun x hx y hy=>?_⟩;have:y=a:=by simpa using hy
   subst this;exact fun z=>als (z▸hx)
  ·intro z;rcases List.mem_append.mp z with q|q
   ·exact nD q
   ·have e:D=a:=by simpa using q
    exact aD e.symm
  ·intro b hb;rcases List.mem_append.mp hb with q|q
   ·exact fr b q
   ·have:b=a:=by simpa using q
    subst this;exact s2.free ha2
  ·intro n b hb;rcases Nat.lt_or_ge n ls.length with q|q
   ·rw [List.getElem?_append_left q] at hb;obtain ⟨y,h1,h2⟩:=at' n b hb;refine ⟨y,h1,?_⟩;rw [qz (fun z:b=D=>nD (by rw [<- z];exact List.mem_of_getElem? hb))];exact s7 _ _ h2
   ·have hn:n=ls.length:=by
     have:=(List.getElem?_eq_some_iff.mp hb).1;rw [List.length_append,List.length_singleton] at this;lia
    subst hn;rw [List.getElem?_append_right (Nat.le_refl _),Nat.sub_self] at hb;have:b=a:=by simpa using hb.symm
    subst this;refine ⟨l[i],by rw [ll];exact e,?_⟩;rw [qz aD];exact ha7
 ·have e:i=l.length:=by lia
  subst e;exact .inl ⟨O.stop _ H2 (hk _ s2) (Nat.le_refl _),fin D H2 ls hD s2 d2 ll nd nD fr at'⟩
section
variable {σ:St}{H H':Hp}{Q:VK}{D:Ends}{K:PySem.W.Frag}{X:Cx}
theorem zfx {t:Addr}{ls:List Addr}{tb:List (List Int)} (hl:ls.length=tb.length):Ov (Itl K t) (ls.zip tb) (fun H=>Tab H t ls tb) (fun y x H H'=>x=.ref y.1/\H'=H/\H y.1=some (.lst (y.2.map V.int))) where
 go:=fun i H h hi=>by
  rw [List.length_zip] at hi;have:i<ls.length:=by lia
  exact ⟨_,.ref ls[i],SqL.of h.at_,by rw [List.getElem?_map];simp [this]⟩
 stop:=fun i H h hi=>by
  rw [List.length_zip,<- hl,Nat.min_self] at hi;exact ⟨_,SqL.of h.at_,by rw [List.length_map];exact hi⟩
 yld:=fun i H x H' y h hy ⟨e,q⟩=>by
  have q:=q _ (SqL.of h.at_);obtain ⟨h1,h2⟩:=List.getElem?_eq_some_iff.mp hy;rw [List.length_zip] at h1;have i1:i<ls.length:=by lia
  have i2:i<tb.length:=by lia
  rw [List.getElem_zip] at h2;subst h2;rw [List.getElem?_map,List.getElem?_eq_getElem i1] at q;refine ⟨(Option.some.inj q).symm,e,?_⟩;have r:=h.row i ls[i] (by simp [i1]);rw [List.getD_eq_getElem?_getD,List.getElem?_eq_getElem i2] at r;exact r
theorem Tab.of_copy {D:Addr}{ls ls':List Addr}{tb:List (List Int)} (hl:ls.length=tb.length) (hD:H' D=some (.lst (ls'.map V.ref))) (h1:ls'.length=(ls.zip tb).length) (h:∀ (i:Nat) a,ls'[i]?=some a->∃ y,(ls.zip tb)[i]?=some y/\H' a=some (.lst (y.2.map V.int))):Tab H' D ls' tb:=by
 rw [List.length_zip,hl,Nat.min_self] at h1;refine ⟨hD,h1,fun i a ha=>?_⟩;obtain ⟨y,hy,q⟩:=h i a ha;obtain ⟨h2,h3⟩:=List.getElem?_eq_some_iff.mp hy;rw [List.length_zip] at h2;have i2:i<tb.length:=by lia
 rw [List.getElem_zip] at h3;subst h3;rw [List.getD_eq_getElem?_getD,List.getElem?_eq_getElem i2];exact q
theorem z01 {t:Addr}{ls:List Addr}{tb:List (List Int)} (hl:ls.length=tb.length):Ov (Ite K t) (ls.zip tb).zipIdx (fun H=>Tab H t ls tb) (fun y x H H'=>∃ T,H T=none/\x=.ref T/\H'=upd H T (.tup [.int (y.2:Nat),.ref y.1.1])/\H y.1.1=some (.lst (y.1.2.map V.int))):=by
 have O:=zra (K:=K) (a:=t) (xs:=ls.map V.ref);have e:(ls.zip tb).zipIdx.length=((ls.map V.ref).zipIdx).length:=by
  rw [List.length_zipIdx,List.length_zipIdx,List.length_zip,List.length_map];lia
 refine ⟨fun i H h hi=>O.go i H (SqL.of h.at_) (by rw [<- e];exact hi),fun i H h hi=>O.stop i H (SqL.of h.at_) (by rw [<- e];exact hi),fun i H x H' y h hy q=>?_⟩;rw [List.getElem?_zipIdx] at hy;obtain ⟨z,hz,ey⟩:=Option.map_eq_some_iff.mp hy;subst ey;obtain ⟨h1,h2⟩:=List.getElem?_eq_some_iff.mp hz;rw [List.length_zip] at h1;have i1:i<ls.length:=by lia
 have i2:i<tb.length:=by lia
 rw [List.getElem_zip] at h2;subst h2;obtain ⟨T,hT,e1,e2⟩:=O.yld i H x H' (.ref ls[i],i) (SqL.of h.at_) (by rw [List.getElem?_zipIdx,List.getElem?_map,List.getElem?_eq_getElem i1];simp) q;have r:=h.row i ls[i] (by simp [i1]);rw [List.getD_eq_getElem?_getD,List.getElem?_eq_getElem i2] at r;refine ⟨T,hT,e1,?_,r⟩;rw [e2];simp
theorem zbg {t:TE} (R:V->Hp->Prop) (h:∀ Q':VK,(∀ v H',R v H'->Q' v H')->t σ H Q') (k:∀ v H',R v H'->Q v H'):t σ H Q:=h Q k
theorem Tab.snoc {t l:Addr}{ls:List Addr}{tb:List (List Int)}{line:List Int} (T:Tab H t ls tb) (hl:H l=some (.lst (line.map V.int))) (tl:t≠l) (tls:t∉ls):Tab (upd H t (.lst (ls.map V.ref++[.ref l]))) t (ls++[l]) (tb++[line]):=by
 refine ⟨by rw [zb,List.map_append];rfl,by rw [List.length_append,List.length_append,T.len];rfl,fun i a ha=>?_⟩;rcases Nat.lt_or_ge i ls.length with q|q
 ·rw [List.getElem?_append_left q] at ha;have at':a≠t:=fun z=>tls (z▸List.mem_of_getElem? ha);have i2:i<tb.length:=by rw [<- T.len];exact q
  rw [qz at',List.getD_eq_getElem?_getD,List.getElem?_append_left i2,<- List.getD_eq_getElem?_getD];exact T.row i a ha
 ·have hn:i=ls.length:=by
   have:=(List.getElem?_eq_some_iff.mp ha).1;rw [List.length_append,List.length_singleton] at this;lia
  subst hn;rw [List.getElem?_append_right (Nat.le_refl _),Nat.sub_self] at ha;have:a=l:=by simpa using ha.symm
  subst this;rw [qz (Ne.symm tl),List.getD_eq_getElem?_getD,T.len,List.getElem?_append_right (Nat.le_refl _),Nat.sub_self];exact hl
theorem zpv {l:Addr}{xs:List V}{v:V} (hl:H l=some (.lst xs)) (hz:xs.length<1000000) (h:Q .non (upd H l (.lst (xs++[v])))):zln (.ref l) [v] H Q:=⟨l,xs,v,rfl,rfl,hl,Nat.lt_of_lt_of_le hz (by decide),h⟩
end
section
variable {σ:St}{H H':Hp}{Q:VK}{D:Ends}{K:PySem.W.Frag}{X:Cx}
theorem z1v {l:Addr}{xs:List V} (hl:H l=some (.lst xs)) (h:Q .non (upd H l (.lst xs.reverse))):zql (.ref l) [] H Q:=⟨l,xs,rfl,rfl,hl,h⟩
theorem z04 {α:Type}{l:List α}{i:Nat}{d:α} (h:i<l.length):l.reverse.getD i d=l.getD (l.length-1-i) d:=by
 rw [List.getD_eq_getElem?_getD,List.getD_eq_getElem?_getD,List.getElem?_reverse h]
theorem Prs.rev {p:Addr}{ts:List Addr}{ps:List (Int×Int)} (T:Prs H p ts ps):Prs (upd H p (.lst (ts.map V.ref).reverse)) p ts.reverse ps.reverse:=by
 refine ⟨by rw [zb,List.map_reverse],by rw [List.length_reverse,List.length_reverse];exact T.len,fun i t h=>?_⟩;have hi:i<ts.length:=by have:=(List.getElem?_eq_some_iff.mp h).1;rw [List.length_reverse] at this;exact this
 rw [List.getElem?_reverse hi] at h;have:=T.row _ t h;rw [z04 (by rw [<- T.len];exact hi),<- T.len,qz (T.ne h)];exact this
theorem z0m {one other:List Int}{ps:List (Int×Int)}{i j:Nat} (A:Lf.AP one other ((i:Int)-1) ((j:Int)-1) ps) (ei:(i:Int)-1=((i-1:Nat):Int)) (ej:(j:Int)-1=((j-1:Nat):Int)) (h3:((i-1:Nat):Int)<one.length) (h4:((j-1:Nat):Int)<other.length) (h:one.getD ((i-1:Nat):Int).toNat 0=other.getD ((j-1:Nat):Int).toNat 0) :
  Lf.AP one other (((i-1:Nat):Int)-1) (((j-1:Nat):Int)-1) ([(((i-1:Nat):Int),((j-1:Nat):Int))].reverse++ps):=by
 rw [ei,ej] at A;exact A.cons (by lia) (by lia) h3 h4 h
end
section
variable {σ:St}{H H':Hp}{Q:VK}{D:Ends}{K:PySem.W.Frag}{X:Cx}
theorem znu {p:Addr}{ts:List Addr}{ps:List (Int×Int)} (hl:ts.length=ps.length):Ov (Itl K p) (ts.zip ps) (fun H=>Prs H p ts ps) (fun y x H H'=>x=.ref y.1/\H'=H/\H y.1=some (.tup [.int y.2.1,.int y.2.2])) where
 go:=fun i H h hi=>by
  rw [List.length_zip] at hi;have:i<ts.length:=by lia
  exact ⟨_,.ref ts[i],SqL.of h.at_,by rw [List.getElem?_map];simp [this]⟩
 stop:=fun i H h hi=>by
  rw [List.length_zip,<- hl,Nat.min_self] at hi;exact ⟨_,SqL.of h.at_,by rw [List.length_map];exact hi⟩
 yld:=fun i H x H' y h hy ⟨e,q⟩=>by
  have q:=q _ (SqL.of h.at_);obtain ⟨h1,h2⟩:=List.getElem?_eq_some_iff.mp hy;rw [List.length_zip] at h1;have i1:i<ts.length:=by lia
  have i2:i<ps.length:=by lia
  rw [List.getElem_zip] at h2;subst h2;rw [List.getElem?_map,List.getElem?_eq_getElem i1] at q;refine ⟨(Option.some.inj q).symm,e,?_⟩;have r:=h.row i ts[i] (by simp [i1]);rw [List.getD_eq_getElem?_getD,List.getElem?_eq_getElem i2] at r;exact r
end
end L2
namespace PySem
open Sem (wp)
section
variable {prog:Program}{w:World}{A:Around}{E:Value->Shared->Prop}{s:Shared}
theorem zr1:typeLookup (.type "list") "keys"=pure none:=am_miss_of_fast (by decide +kernel)
theorem zwv {a:Addr}{o:Obj}{xs:Array Value}{k:Nat}{Q:Option Value->Shared->Prop} (hx:s.heap.get? a=some o) (hc:o.cls=.type "list") (hdat:o.data=.seq xs k) (hd:o.dict=none) (hA:A.handled=none)
  (h:∀ h' tk,(∀ b ob,s.heap.get? b=some ob->h'.get? b=some ob)->Q none { s with heap:=h',toks:=tk }):wpAny (model prog w) A (getAttr? (.ref a) "keys") Q E s:=by
 obtain ⟨c,dct,dat,sl⟩:=o;simp only at hc hdat hd
 subst hc hdat hd;obtain ⟨hp,g,d,tk,os⟩:=s;have hT:∀ tk',(⟨hp,g,d,tk',os⟩:Shared).TypeIs (.ref a) "list":=fun _=>⟨_,hx,rfl⟩
 have f1:=sub_AttributeError;have f3:=F.slot_list_getattribute.lookup;have f4:=F.slot_list_getattribute.bind (.ref a);have f5:=am_list_getattr_none;unfold getAttr? getAttrBy? getAttrBy;repeat (any_goals (first|assumption|exact hT _|((with_reducible show wpAny _ _ (call (Value.builtin "list.__getattribute__") _ _) _ _ _);refine call_meets F.slot_list_getattribute (hT _) am_entry_list_getattribute (F.args_list_getattribute_2 _ _) (meets_getattribute_miss_list a xs k sl "keys" _ zr1 (by decide +kernel) (by decide +kernel)) ⟨hx,hA,fun h' tk' e hx'=>?_⟩)|wp_step))
 obtain ⟨t',u',he⟩:=hx'.there;show wpAny _ _ (getattributeRaised _ _ _ _ _ _ _) _ _ _
 unfold getattributeRaised;repeat (any_goals (first|assumption|wp_step))
 exact h _ _ hx'.keeps
theorem zky:entryFor table "dict.update.loop"=some Builtin.«dict.update.loop»:=entryFor_of_tree (by kernel_rfl)
theorem zdl:plainId "dict.update.loop"=true:=by decide +kernel
theorem z25 {R:Result->Shared->Prop}{I:Addr}{fp wr:List Addr}{G:Array GenState->Array GenState->Prop}{n:Nat}{It:Nat->Value->Prop}{St:Nat->Shared->Prop}
  (W:WalksS prog w A.in1 I fp wr G n It St) (d:Addr) (hd:d∉fp) (J:Nat->Heap->Prop) (keep:∀ i h h',J i h->(∀ b o,b∉wr->h.get? b=some o->h'.get? b=some o)->J i h')
  (pair:∀ i v (s:Shared),i<n->It i v->J i s.heap->∃ k x:Value,(∀ (Q':List Value->Shared->Prop) (E':Value->Shared->Prop),Q' [k,x] s->wpAny (model prog w) A.in1 (Builtin.Dict.pairItems v) Q' E' s) /\
   ∀ (Q':Unit->Shared->Prop) (E':Value->Shared->Prop),(∀ h' tk,J (i+1) h'->(∀ b o,b≠d->s.heap.get? b=some o->h'.get? b=some o)->s.toks<=tk->Q' () { s with heap:=h',toks:=tk })->wpAny (model prog w) A.in1 (dictSet d k x) Q' E' s) :
  ∀ (m i:Nat) (s:Shared),n-i=m->i<=n->St i s->J i s.heap ->
   (∀ s',Moved (d::wr) G s s'->J n s'.heap->R (.ok (.ret .none)) s') ->
   codeAny (model prog w) A (.builtin "dict.update.loop" ⟨[.ref d,.ref I,rawInt i,.none],[]⟩) R s:=by
 have dw:d∉wr:=fun z=>hd (W.sub _ z);have sb:∀ b∈wr,b∈d::wr:=fun b z=>List.mem_cons_of_mem _ z;intro m;induction m with
 |zero =>
  intro i s hm hi st k fin;obtain rfl:i=n:=by lia
  refine codeAny_builtin zky ?_;rw [Around.under_plainId zdl _];show wpAny _ A.in1 (pyNext (.ref I) >>= _) _ _ s
  refine wpAny_bind (W.done s _ _ st fun s' mv=>?_);show wpAny _ A.in1 (Builtin.Dict.addKeywords d [] >>= _) _ _ s'
  refine wpAny_bind ?_;refine wpAny_pure ?_;exact wpAny_pure (fin s' (mv.mono sb) (keep _ _ _ k fun b o hb e=>mv.heap b o hb e))
 |succ m ih =>
  intro i s hm hi st k fin;have hlt:i<n:=by lia
  refine codeAny_builtin zky ?_;rw [Around.under_plainId zdl _];show wpAny _ A.in1 (pyNext (.ref I) >>= _) _ _ s
  refine wpAny_bind (W.item i s _ _ hlt st fun v s' hP st' mv=>?_);have k':J i s'.heap:=keep _ _ _ k fun b o hb e=>mv.heap b o hb e;obtain ⟨kk,x,hpi,hset⟩:=pair i v s' hlt hP k';show wpAny _ A.in1 (holding [v] _ >>= _) _ _ s'
  refine wpAny_bind (wpAny_holding ?_);refine wpAny_bind ?_;refine wpAny_tryCatch (hpi _ _ ?_);show wpAny _ A.in1 (holding [kk,x] (dictSet d kk x)) _ _ s'
  refine wpAny_holding (hset _ _ fun h' tk k2 kp le=>?_);refine wpAny_pure ⟨plainId_quiet zdl _,?_⟩;have er:rawInt ((i:Int)+1)=rawInt ((i+1:Nat):Int):=rfl;show codeAny _ _ (.builtin "dict.update.loop" ⟨[.ref d,.ref I,rawInt ((i:Int)+1),.none],[]⟩) _ _
  rw [er];refine ih (i+1) { s' with heap:=h',toks:=tk } (by lia) hlt (W.frame _ s' _ _ st' le fun b hb o e=>kp b o (fun z=>hd (by rw [<- z];exact hb)) e) k2 fun s'' mv2 k4=>?_;refine fin s'' (Moved.trans W.gtrans ((mv.mono sb).then_heap le fun b o hb e=>?_) mv2) k4;exact kp b o (fun z=>hb (by rw [z];exact List.mem_cons_self)) e
end
end PySem
namespace PySem
open Sem (wp)
section
variable {prog:Program}{w:World}{A:Around}{E:Value->Shared->Prop}{s:Shared}
theorem zyd {l:Addr}{its:Array Value}{k:Nat}{sl:Array (Option Value)}{Q:Value->Shared->Prop} (hh:A.handled=none) (hl:s.heap.get? l=some { cls:=.type "list",dict:=none,data:=.seq its k,slots:=sl }) (J:Nat->Heap->Prop)
  (start:∀ h':Heap,(∀ b o,s.heap.get? b=some o->h'.get? b=some o)->h'.get? s.heap.objs.size=some { cls:=.type "dict",data:=.dict #[] }->J 0 h')
  (keep:∀ i (h h':Heap) (I:Addr),s.heap.objs.size<I->J i h->(∀ b o,b≠I->h.get? b=some o->h'.get? b=some o)->J i h')
  (pair:∀ i v (s':Shared),i<its.size->its[i]?=some v->J i s'.heap->∃ k x:Value,(∀ (Q':List Value->Shared->Prop) (E':Value->Shared->Prop),Q' [k,x] s'->wpAny (model prog w) A.in1.in1 (Builtin.Dict.pairItems v) Q' E' s') /\
   ∀ (Q':Unit->Shared->Prop) (E':Value->Shared->Prop),(∀ h' tk,J (i+1) h'->(∀ b o,b≠s.heap.objs.size->s'.heap.get? b=some o->h'.get? b=some o)->s'.toks<=tk->Q' () { s' with heap:=h',toks:=tk })->wpAny (model prog w) A.in1.in1 (dictSet s.heap.objs.size k x) Q' E' s')
  (fin:∀ h' tk,J its.size h'->(∀ b o,s.heap.get? b=some o->h'.get? b=some o)->Q (.ref s.heap.objs.size) { s with heap:=h',toks:=tk }) :
  wpAny (model prog w) A (call (.type "dict") [.ref l]) Q E s:=by
 refine callType_codes (Q₁:=fun obj s₁=>obj=.ref s.heap.objs.size/\s₁={ s with heap:=s.heap.push { cls:=.type "dict",data:=.dict #[] } }) F.kt_called_dict (F.kt_typeCall_dict_1 _) F.entry_dict_init (kt_code_dict_new _ ⟨rfl,rfl⟩) ?_;rintro obj s₁ ⟨rfl,rfl⟩;have hnew:(s.heap.push { cls:=.type "dict",data:=.dict #[] }).get? s.heap.objs.size=some { cls:=.type "dict",data:=.dict #[] }:=Heap.get?_push_size _ rfl;have hT:({ s with heap:=s.heap.push { cls:=.type "dict",data:=.dict #[] } }:Shared).TypeIs (.ref s.heap.objs.size) "dict":=⟨_,hnew,rfl⟩
 have hl1:(s.heap.push { cls:=.type "dict",data:=.dict #[] }).get? l=some { cls:=.type "list",dict:=none,data:=.seq its k,slots:=sl }:=Heap.get?_push_of_some _ hl;have ls:l<s.heap.objs.size:=Heap.lt_size hl;refine ⟨hT,F.args_dict_init_2 _ _,?_⟩;unfold Builtin.«dict.__init__»;refine wpAny_bind ?_;unfold Builtin.Dict.selfAndRest;refine wpAny_bind (wpAny_notOrdered_dict hT ?_);show wpAny _ _ (pure (s.heap.objs.size,[Value.ref l])) _ _ _
 refine wpAny_pure ?_;show wpAny _ _ (Builtin.Dict.updateFrom "dict.__init__" s.heap.objs.size (.ref l) [] .none) _ _ _
 unfold Builtin.Dict.updateFrom;refine wpAny_bind (wpAny_typeOf (⟨_,hl1,rfl⟩:({ s with heap:=s.heap.push { cls:=.type "dict",data:=.dict #[] } }:Shared).TypeIs (.ref l) "list") ?_);rw [if_pos (by decide)];refine wpAny_bind (zwv hl1 rfl rfl rfl (by simp [hh]) fun h2 tk2 kp2=>?_);rw [if_pos (show (none:Option Value).isNone=true from rfl)];refine wpAny_bind (wpAny_rule ?_);have hl2:=kp2 _ _ hl1;refine wpAny_bind (wpAny_pyIter_list (⟨_,hl2,rfl,k,rfl⟩:h2.IsList l its) ?_);refine wpAny_pure ⟨plainId_quiet zdl _,?_⟩;have sz2:s.heap.objs.size<h2.objs.size:=Heap.lt_size (kp2 _ _ hnew);have ne1:l≠h2.objs.size:=Nat.ne_of_lt (Nat.lt_trans ls sz2);have hd2:(h2.push { cls:=.type "list_iterator",data:=.fields #[.ref l,.int 0 0] }).get? s.heap.objs.size=some { cls:=.type "dict",data:=.dict #[] }:=Heap.get?_push_of_some _ (kp2 _ _ hnew);have kp3:∀ b o,s.heap.get? b=some o->(h2.push { cls:=.type "list_iterator",data:=.fields #[.ref l,.int 0 0] }).get? b=some o:=fun b o e=>Heap.get?_push_of_some _ (kp2 _ _ (Heap.get?_push_of_some _ e));refine z25 ((Walks.list (A:=A.in1.in1) (by simp [hh]) h2.objs.size l ne1 its).toS) s.heap.objs.size (by simp;exact ⟨Nat.ne_of_lt sz2,Nat.ne_of_gt ls⟩) J (fun i h h' j e=>keep i h h' h2.objs.size sz2 j fun b o hb=>e b o (by simpa using hb)) (fun i v s' hi hv j=>pair i v s' hi hv j) its.size 0 _ (by lia) (Nat.zero_le _) ⟨⟨_,Heap.get?_push_size _ rfl,rfl,rfl⟩,⟨_,Heap.get?_push_of_some _ hl2,rfl,k,rfl⟩⟩ (start _ kp3 hd2) fun s' mv j=>?_;obtain ⟨hp',g',d',tk',os'⟩:=s';obtain rfl:g'=s.gens:=mv.gens;obtain rfl:d'=s.drawn:=mv.drawn;obtain rfl:os'=s.os:=mv.os;refine ⟨rfl,fin _ _ j fun b o e=>mv.heap b o ?_ (kp3 b o e)⟩;have:=Heap.lt_size e;simp only [List.mem_cons,List.not_mem_nil,or_false,not_or];exact ⟨Nat.ne_of_lt this,Nat.ne_of_lt (Nat.lt_trans this sz2)⟩
end
end PySem
namespace L2
open PySem PySem.Spec PyProof.Rows
section
variable {P:Program}{w:World}{A:Around}{E:Value->Shared->Prop}{s:Shared}
theorem pair_items {t:Addr}{its:List Value}{Q:List Value->Shared->Prop} (ht:IsTup s.heap t its.toArray) (h:Q its s):wpAny (model P w) A (Builtin.Dict.pairItems (.ref t)) Q E s:=by
 obtain ⟨o,ho,hc,n,hd⟩:=ht;unfold Builtin.Dict.pairItems;refine wpAny_bind (wpAny_typeOf (⟨o,ho,hc⟩:s.TypeIs (.ref t) "tuple") ?_);rw [if_pos (by decide)];refine wpAny_bind (wpAny_seqItems ho hd ?_);refine wpAny_pure ?_;simpa using h
end
section
variable {X:Cx}{σ:St}{H H':Hp}{Q:VK}{D:Ends}{K:PySem.W.Frag}
theorem zs9 (kvs:List (Key×V)) (kv:Key×V) (l:List (Key×V)):zb3 l (kvs++[kv])=putK (zb3 l kvs) kv.1 kv.2:=by
 unfold zb3;rw [List.foldl_append];rfl
noncomputable def zai (kvs more:List (List Key×V)):List (List Key×V):=more.foldl (fun acc kv=>putK acc kv.1 kv.2) kvs
theorem ztb (kvs:List (List Key×V)) (kv:List Key×V) (l:List (List Key×V)):zai l (kvs++[kv])=putK (zai l kvs) kv.1 kv.2:=by
 unfold zai;rw [List.foldl_append];rfl
theorem zh8:∀ (more kvs:List (List Key×V)),(zai kvs more).length<=kvs.length+more.length
 |[],kvs=>Nat.le_refl _
 |p::r,kvs=>by
  have h1:=zh8 r (putK kvs p.1 p.2);have h2:=zun kvs p.1 p.2;rw [List.length_cons];show (zai (putK kvs p.1 p.2) r).length<=_
  lia
noncomputable def z17 (xs:List V) (H:Hp) (Q:VK):Prop:=∃ (p:Addr) (ts:List Addr) (kvs:List (Key×V)),xs=[.ref p]/\H p=some (.lst (ts.map V.ref))/\ts.length=kvs.length/\kvs.length<=1000000/\(∀ (i:Nat) t,ts[i]?=some t->∃ kv,kvs[i]?=some kv/\H t=some (.tup [kV kv.1,kv.2]))/\∀ d,H d=none->Q (.ref d) (upd H d (.dK (zb3 [] kvs)))
theorem znv:∀ (ts:List Addr) (us:List Value),Vals (ts.map V.ref) us->us=ts.map Value.ref
 |[],us,r=>by cases r;rfl
 |t::ts,us,r=>by
  cases r with
  |cons a b =>
   cases a
   rw [znv ts _ b];rfl
theorem zps {α:Type}{l:List α}{i:Nat}{y:α} (h:l[i]?=some y):l.take (i+1)=l.take i++[y]:=take_snoc h
theorem zvn (hc:X.calm=true):zca X (.type "dict") z17:=by
 intro pins s σ H xs us Q I r h;obtain ⟨p,ts,kvs,rfl,hp,hlen,hbig,hts,q⟩:=h;obtain ⟨u,rfl,ru⟩:=vals1 r;cases ru
 obtain ⟨z,its,n,rv,hl,e⟩:=I.lstM hp;have ei:=znv ts its rv;have hsys:(s.heap.objs.size==sysModules)=false:=by
  have:=I.big;simp;exact Nat.ne_of_gt this
 have hsl:(1000000:Nat)<=sizeLine:=by decide
 have hl2:its.length=kvs.length:=by rw [ei,List.length_map];exact hlen
 refine zyd (I.ok.hd hc) e (fun i h=>∃ vs,KV (zb3 [] (kvs.take i)) vs/\h.DictOf (kh X.prog X.w) s.heap.objs.size vs/\∀ b o,s.heap.get? b=some o->h.get? b=some o) ?_ ?_ ?_ ?_
 ·intro h' kp hd;exact ⟨[],.nil,⟨_,#[],0,hd,⟨rfl,rfl,rfl⟩,rfl,by intro e he;simp at he,.nil,by simp⟩,kp⟩
 ·rintro i h h' J0 hJ ⟨vs,kv,⟨o,es,ep,ho,rest⟩,kp⟩ k2;exact ⟨vs,kv,⟨o,es,ep,k2 _ _ (Nat.ne_of_lt hJ) ho,rest⟩,fun b o e=>k2 b o (Nat.ne_of_lt (Nat.lt_trans (Heap.lt_size e) hJ)) (kp b o e)⟩
 ·rintro i v s' hi hv ⟨vs,kv,dd,kp⟩;have hi':i<ts.length:=by rw [List.size_toArray,hl2] at hi;lia
  have ev:v=.ref ts[i]:=by
   have:its[i]?=some v:=by simpa using hv
   rw [ei,List.getElem?_map,List.getElem?_eq_getElem hi'] at this;exact (Option.some.inj this).symm
  subst ev;obtain ⟨kv0,hkv,ht⟩:=hts i ts[i] (by simp [hi']);obtain ⟨_,its2,r2,tp⟩:=(show wk X.prog X.w H s.heap ts[i] (.tup [kV kv0.1,kv0.2]) from I.hok _ _ ht)
  obtain ⟨o2,g2,rest2⟩:=tp;cases r2 with
  |cons ra rb =>
   cases rb with
   |cons rb rc =>
    cases rc
    refine ⟨_,_,fun Q' E' hQ=>pair_items ⟨o2,kp _ _ g2,rest2⟩ hQ,fun Q' E' hQ=>?_⟩;have hle:vs.length<=sizeLine:=by
     have h1:=zfu (kvs.take i) [];have h2:=kv.length;rw [List.length_take,List.length_nil] at h1;lia
    refine wpAny_dictSet_pairs (hsz:=hle) (zwf ra) dd fun h' dd' sm=>hQ h' _ ⟨_,?_,dd',?_⟩ ?_ (Nat.le_succ _)
    ·rw [zps hkv,zs9];exact kv.put _ rb
    ·intro b o e;rw [sm.2 b (Nat.ne_of_lt (Heap.lt_size e))];exact kp b o e
    ·intro b o hb e;rw [sm.2 b hb];exact e
 ·rintro h' tk ⟨vs,kv,dd,kp⟩ _;rw [List.size_toArray,hl2,List.take_length] at kv;have hz:(zb3 [] kvs).length<=sizeLine:=by
   have h1:=zfu kvs [];rw [List.length_nil] at h1;lia
  exact ⟨.ref s.heap.objs.size,_,I.laid (o:=.dK (zb3 [] kvs)) (h':=h') (t':=tk) kp (Nat.le_refl _) (show wk X.prog X.w _ h' _ (.dK (zb3 [] kvs)) from ⟨hz,hsys,vs,kv,dd⟩),rfl,q _ (I.hok.fresh (Nat.le_refl _))⟩
theorem zn2 {h h':Heap}{P:Program}{w:World}{ks:List Key}{a:Addr} (ok:HOk P w H h) (e:H a=some (.tup (ks.map kV))) (kp:∀ b o,h.get? b=some o->h'.get? b=some o):(tupleKind (kh P w)).is h' ks a:=by
 obtain ⟨_,its,r,o,h1,h2,n,h3⟩:=(show wk P w H h a (.tup (ks.map kV)) from ok a _ e)
 exact ⟨o,its.toArray,n,kp _ _ h1,h2,h3,by simpa using zm7 r⟩
theorem zz3 {h h':Heap}{P:Program}{w:World} (ok:HOk P w H h) (kp:∀ b o,h.get? b=some o->h'.get? b=some o):∀ {kvs:List (List Key×V)}{ys:List (List Key×Addr×Value)},KT H kvs ys->∀ x∈ys,(tupleKind (kh P w)).is h' x.1 x.2.1:=by
 intro kvs ys r;induction r with
 |nil=>intro x hx;exact nomatch hx
 |@cons p q ps qs hq t ih =>
  intro x hx;rcases List.mem_cons.mp hx with e|hx
  ·subst e;exact zn2 ok (by rw [<- hq.1];exact hq.2.1) kp
  ·exact ih x hx
noncomputable def z1z (xs:List V) (H:Hp) (Q:VK):Prop:=∃ (p:Addr) (ts:List Addr) (kvs:List (List Key×V)),xs=[.ref p]/\H p=some (.lst (ts.map V.ref))/\ts.length=kvs.length/\kvs.length<=1000000/\(∀ (i:Nat) t,ts[i]?=some t->∃ kv u,kvs[i]?=some kv/\H t=some (.tup [.ref u,kv.2])/\H u=some (.tup (kv.1.map kV)))/\∀ d,H d=none->Q (.ref d) (upd H d (.dT (zai [] kvs)))
theorem zvf (hc:X.calm=true) (hu:X.A.units+64<cLine):zca X (.type "dict") z1z:=by
 intro pins s σ H xs us Q I r h;obtain ⟨p,ts,kvs,rfl,hp,hlen,hbig,hts,q⟩:=h;obtain ⟨u,rfl,ru⟩:=vals1 r;cases ru
 obtain ⟨z,its,n,rv,hl,e⟩:=I.lstM hp;have ei:=znv ts its rv;have hsys:(s.heap.objs.size==sysModules)=false:=by
  have:=I.big;simp;exact Nat.ne_of_gt this
 have hsl:(1000000:Nat)<=sizeLine:=by decide
 have hl2:its.length=kvs.length:=by rw [ei,List.length_map];exact hlen
 refine zyd (I.ok.hd hc) e (fun i h=>∃ ys,KT H (zai [] (kvs.take i)) ys/\h.DictOfH (tupleKind (kh X.prog X.w)) s.heap.objs.size ys/\∀ b o,s.heap.get? b=some o->h.get? b=some o) ?_ ?_ ?_ ?_
 ·intro h' kp hd;exact ⟨[],.nil,⟨_,#[],0,hd,⟨rfl,rfl,rfl⟩,rfl,rfl,by simp,by simp⟩,kp⟩
 ·rintro i h h' J0 hJ ⟨ys,kt,⟨o,es,ep,ho,c1,c2,c3,c4,c5⟩,kp⟩ k2;have kp':∀ b o,s.heap.get? b=some o->h'.get? b=some o:=fun b o e=>k2 b o (Nat.ne_of_lt (Nat.lt_trans (Heap.lt_size e) hJ)) (kp b o e);refine ⟨ys,kt,⟨o,es,ep,k2 _ _ (Nat.ne_of_lt hJ) ho,c1,c2,c3,fun x hx=>?_,c5⟩,kp'⟩;exact zz3 I.hok kp' kt x hx
 ·rintro i v s' hi hv ⟨ys,kt,dd,kp⟩;have hi':i<ts.length:=by rw [List.size_toArray,hl2] at hi;lia
  have ev:v=.ref ts[i]:=by
   have:its[i]?=some v:=by simpa using hv
   rw [ei,List.getElem?_map,List.getElem?_eq_getElem hi'] at this;exact (Option.some.inj this).symm
  subst ev;obtain ⟨kv0,u,hkv,ht,hu0⟩:=hts i ts[i] (by simp [hi']);obtain ⟨_,its2,r2,tp⟩:=(show wk X.prog X.w H s.heap ts[i] (.tup [.ref u,kv0.2]) from I.hok _ _ ht)
  obtain ⟨o2,g2,rest2⟩:=tp;cases r2 with
  |cons ra rb =>
   cases rb with
   |cons rb rc =>
    cases rc
    cases ra
    refine ⟨_,_,fun Q' E' hQ=>pair_items ⟨o2,kp _ _ g2,rest2⟩ hQ,fun Q' E' hQ=>?_⟩;have hle:ys.length<=sizeLine:=by
     have h1:=zh8 (kvs.take i) [];have h2:=kt.length;rw [List.length_take,List.length_nil] at h1;lia
    have hroom:(tupleKind (kh X.prog X.w)).room X.A.in1.in1:=by
     show X.A.in1.units+1<cLine
     have:X.A.in1.units=X.A.units+1:=rfl;lia
    have hkey:(tupleKind (kh X.prog X.w)).is s'.heap kv0.1 u:=zn2 I.hok hu0 kp;refine wpAny_dictSet_heap (hsz:=hle) hroom hkey dd fun h' dd' sm=>hQ h' _ ⟨_,?_,dd',?_⟩ ?_ (Nat.le_add_right _ _)
    ·rw [zps hkv,ztb];exact kt.put _ hu0 rb
    ·intro b o e;rw [sm.2 b (Nat.ne_of_lt (Heap.lt_size e))];exact kp b o e
    ·intro b o hb e;rw [sm.2 b hb];exact e
 ·rintro h' tk ⟨ys,kt,⟨o,es,ep,ho,c1,c2,c3,c4,c5⟩,kp⟩ _;rw [List.size_toArray,hl2,List.take_length] at kt;have hz:(zai [] kvs).length<=sizeLine:=by
   have h1:=zh8 kvs [];rw [List.length_nil] at h1;lia
  have fr:=I.hok.fresh (Nat.le_refl s.heap.objs.size);have kt':KT (upd H s.heap.objs.size (.dT (zai [] kvs))) (zai [] kvs) ys:=kt.keeps fun b xs e=>zu e fr;exact ⟨.ref s.heap.objs.size,_,I.laid (o:=.dT (zai [] kvs)) (h':=h') (t':=tk) kp (Nat.le_refl _) (show wk X.prog X.w _ h' _ (.dT (zai [] kvs)) from ⟨hz,hsys,ys,kt',o,es,ep,ho,c1,c2,c3,c5⟩),rfl,q _ fr⟩
end
end L2
namespace PySem
open Sem (wp)
section
variable {prog:Program}{w:World}{A:Around}{E:Value->Shared->Prop}{s:Shared}
noncomputable def Heap.DictRaw (h:Heap) (d:Addr) (es:Array DictEntry) (ep:Nat):Prop:=∃ o,h.get? d=some o/\o.ExactDict/\o.data=.dict es ep
theorem Heap.DictRaw.ty {d:Addr}{es:Array DictEntry}{ep:Nat} (x:s.heap.DictRaw d es ep):s.TypeIs (.ref d) "dict":=let ⟨o,ho,hc,_⟩:=x;⟨o,ho,hc.1⟩
theorem Heap.DictRaw.to {h h':Heap}{d:Addr}{es:Array DictEntry}{ep:Nat} (x:h.DictRaw d es ep) (e:∀ o,h.get? d=some o->h'.get? d=some o):h'.DictRaw d es ep:=let ⟨o,ho,r⟩:=x;⟨o,e o ho,r⟩
theorem zyq {d:Addr}{es:Array DictEntry}{ep:Nat}{Q:Value->Shared->Prop} (hd:(d==sysModules)=false) (hm:s.heap.DictRaw d es ep)
  (hQ:Q (.ref s.heap.objs.size) { s with heap:=s.heap.push { cls:=.type "dict_keyiterator",data:=.fields #[.ref d,.int 0 0,.int es.size 0,.int ep 0] } }):wpAny (model prog w) A (pyIter (.ref d)) Q E s:=by
 have hT:=hm.ty;obtain ⟨o,ho,hc,hdat⟩:=id hm;refine wpAny_pyIter_slot hT F.slot_dict_iter (wpAny_call_entry F.slot_dict_iter hT F.entry_dict_iter ?_ (F.args_dict_iter_1 _));unfold Builtin.«dict.__iter__» Builtin.Dict.dictSlotNone;refine wpAny_bind (wpAny_bind (wpAny_notOrdered_dict hT ?_));show wpAny _ _ (pure (Value.ref d)) _ _ s
 refine wpAny_pure ?_;show wpAny _ _ (Builtin.Dict.showsAll d >>= _) _ _ s
 unfold Builtin.Dict.showsAll;rw [if_neg (by rw [hd];exact Bool.false_ne_true)];refine wpAny_bind (wpAny_pure (wpAny_bind (wpAny_dictEntries ho hdat (wpAny_bind (wpAny_dictEpoch ho hdat ?_)))));refine wpAny_bind (wpAny_newObj_type (wpAny_pure ⟨_,rfl,"dict_keyiterator",_,⟨_,Heap.get?_push_size _ rfl,rfl⟩,F.slot_dict_keyiterator_next.lookup,by simpa [rawInt] using hQ⟩))
theorem zy9 {it d:Addr}{i ep:Nat}{es:Array DictEntry}{Q:Option Value->Shared->Prop} (hit:s.heap.IsKeyIter it d i es.size ep) (hm:s.heap.DictRaw d es ep) (hlt:i<es.size)
  (hQ:∀ h',h'.IsKeyIter it d (i+1) es.size ep->Heap.SameBut it s.heap h'->Q (some es[i].key) { s with heap:=h' }):wpAny (model prog w) A (pyNext (.ref it)) Q E s:=by
 obtain ⟨o,ho,hc,hd⟩:=id hit;obtain ⟨od,hod,hcd,hdd⟩:=id hm;unfold pyNext;refine wpAny_bind (wpAny_attempt (wpAny_callSpecial?_slot (name:=Str.ofString "__next__") hit.typeIs F.slot_dict_keyiterator_next (wpAny_call_entry F.slot_dict_keyiterator_next hit.typeIs F.entry_dict_keyiterator_next ?_ (F.args_dict_keyiterator_next_1 _))));refine wpAny_bind (wpAny_pure (wpAny_bind (wpAny_bind ?_)));first|refine wpAny_bind (wpAny_typeNameOfWhole_keyiter hit.typeIs (wpAny_pure (wpAny_bind (wpAny_fieldsOf ho hd ?_))))|refine wpAny_bind (wpAny_typeNameOf_keyiter hit.typeIs (wpAny_pure (wpAny_bind (wpAny_fieldsOf ho hd ?_))))
 have own:Builtin.Dict_items.ownsTuple "dict_keyiterator"=false:=by decide
 simp only [own,Bool.false_eq_true,if_false];show wpAny _ _ (if (Value.ref d==Value.none)=true then _ else _) _ _ s;rw [if_neg (show ¬ ((Value.ref d==Value.none)=true) from Bool.false_ne_true)];refine wpAny_bind (wpAny_pure ?_)
 refine wpAny_bind (wpAny_dictEntries hod hdd ?_);rw [if_neg (by simp)];refine wpAny_bind (wpAny_pure (wpAny_bind (wpAny_dictEpoch hod hdd ?_)));rw [if_neg (by simp)];refine wpAny_pure ?_;simp only [show ¬ ((i:Int)<0) by lia,if_false,Int.toNat_natCast,Array.getElem?_eq_getElem hlt];refine wpAny_bind ?_;first|refine wpAny_bind (wpAny_typeNameOfWhole_keyiter hit.typeIs (wpAny_pure (wpAny_bind (wpAny_isOneOf_keyiter hit.typeIs ?_))))|refine wpAny_bind (wpAny_typeNameOf_keyiter hit.typeIs (wpAny_pure (wpAny_bind (wpAny_isOneOf_keyiter hit.typeIs ?_))))
 show wpAny _ _ (setField (.ref it) 1 (rawInt ((i:Int)+1)) >>= _) _ _ s;refine wpAny_bind (wpAny_setField ho hd (by simp) ?_)
 have on:(s.heap.update it (Obj.mapFields (·.setIfInBounds 1 (rawInt ((i:Int)+1))))).IsKeyIter it d (i+1) es.size ep:=⟨_,Heap.get?_update_self _ ho (Obj.isFreed_of_fields (Obj.data_mapFields hd _)),(Obj.cls_mapFields ..).trans hc,by rw [Obj.data_mapFields hd];simp [rawInt]⟩
 refine wpAny_bind (wpAny_holding (wpAny_bind (wpAny_isOneOf_keyiter (s:={ s with heap:=s.heap.update it (Obj.mapFields (·.setIfInBounds 1 (rawInt ((i:Int)+1)))) }) on.typeIs ?_)));show wpAny _ _ (pure es[i].key) _ _ _;exact wpAny_pure (wpAny_pure ⟨_,rfl,wpAny_pure (hQ _ on (Heap.SameBut.update ..))⟩)
theorem z1u {it d:Addr}{i ep:Nat}{es:Array DictEntry}{Q:Option Value->Shared->Prop} (hh:A.handled=none) (hit:s.heap.IsKeyIter it d i es.size ep) (hm:s.heap.DictRaw d es ep) (hge:es.size<=i)
  (hQ:∀ h',Heap.ExtBut it s.heap h'->Q none { s with heap:=h' }):wpAny (model prog w) A (pyNext (.ref it)) Q E s:=by
 obtain ⟨o,ho,hc,hd⟩:=id hit;obtain ⟨od,hod,hcd,hdd⟩:=id hm;unfold pyNext;refine wpAny_bind (wpAny_attempt (wpAny_callSpecial?_slot (name:=Str.ofString "__next__") hit.typeIs F.slot_dict_keyiterator_next (wpAny_call_entry F.slot_dict_keyiterator_next hit.typeIs F.entry_dict_keyiterator_next ?_ (F.args_dict_keyiterator_next_1 _))));refine wpAny_bind (wpAny_pure (wpAny_bind (wpAny_bind ?_)));first|refine wpAny_bind (wpAny_typeNameOfWhole_keyiter hit.typeIs (wpAny_pure (wpAny_bind (wpAny_fieldsOf ho hd ?_))))|refine wpAny_bind (wpAny_typeNameOf_keyiter hit.typeIs (wpAny_pure (wpAny_bind (wpAny_fieldsOf ho hd ?_))))
 have own:Builtin.Dict_items.ownsTuple "dict_keyiterator"=false:=by decide
 simp only [own,Bool.false_eq_true,if_false];show wpAny _ _ (if (Value.ref d==Value.none)=true then _ else _) _ _ s;rw [if_neg (show ¬ ((Value.ref d==Value.none)=true) from Bool.false_ne_true)];refine wpAny_bind (wpAny_pure ?_)
 refine wpAny_bind (wpAny_dictEntries hod hdd ?_);rw [if_neg (by simp)];refine wpAny_bind (wpAny_pure (wpAny_bind (wpAny_dictEpoch hod hdd ?_)));rw [if_neg (by simp)];refine wpAny_pure ?_;simp only [show ¬ ((i:Int)<0) by lia,if_false,Int.toNat_natCast,Array.getElem?_eq_none hge];refine wpAny_bind ?_
 (first|refine wpAny_bind (wpAny_typeNameOfWhole_keyiter hit.typeIs (wpAny_pure ?_))|refine wpAny_bind (wpAny_typeNameOf_keyiter hit.typeIs (wpAny_pure ?_)));show wpAny _ _ (setField (.ref it) 0 .none >>= _) _ _ s;refine wpAny_bind (wpAny_setField ho hd (by simp) ?_);show wpAny _ _ (newExc (.type "StopIteration") [] >>= _) _ _ _
 refine wpAny_bind ?_;simp only [newExc,newTuple];refine wpAny_bind (wpAny_newObj_type (wpAny_bind (m:=firstArgMember _ _) (wpAny_of_eq (a:=Value.none) (by first|rfl|(simp only [firstArgMember];rfl)) ?_)) (by size_fits));refine wpAny_newObj_type ?_ (by size_fits);simp only [raiseNew];refine wpAny_bind (wpAny_handled ?_);rw [show A.in1.handled=none from hh];refine wpAny_bind (wpAny_pure (wpAny_throw ?_));refine wpAny_bind (wpAny_isInstance (T:="StopIteration") (b:=true) ⟨_,Heap.get?_push_size _ rfl,rfl⟩ isSubtype_stop ?_);exact wpAny_pure (hQ _ (((Heap.SameBut.update ..).extBut.push _).push _))
theorem zz9 (hh:A.handled=none) (I d:Addr) (hne:d≠I) (es:Array DictEntry) (ep:Nat):Walks prog w A I [I,d] [I] es.size (fun i v=>∃ e,es[i]?=some e/\v=e.key) (fun i h=>h.IsKeyIter I d i es.size ep/\h.DictRaw d es ep) where
 sub:=fun b hb=>by simp [show b=I from by simpa using hb]
 frame:=fun _ _ _ st hk=>⟨st.1.at fun o e=>hk I (by simp) o e,st.2.to fun o e=>hk d (by simp) o e⟩
 item:=fun i s Q E hi st hQ=>zy9 st.1 st.2 hi fun h' on sm=>hQ _ h' s.toks ⟨es[i],by simp [hi],rfl⟩ ⟨on,st.2.to fun o e=>sm.extBut d o hne e⟩ fun b o hb e=>sm.extBut b o (fun h=>hb (by simp [h])) e
 done:=fun s Q E st hQ=>z1u hh st.1 st.2 (Nat.le_refl _) fun h' he=>hQ h' s.toks fun b o hb e=>he b o (fun h=>hb (by simp [h])) e
 self:=fun _ _ _ _ st hQ=>wpAny_pyIter_keyiter st.1 hQ
end
end PySem
namespace L2
open PySem PySem.Spec PyProof.Rows
section
variable {X:Cx}{σ:St}{H H':Hp}{Q:VK}{D:Ends}{K:PySem.W.Frag}{tg:Expr}{pos:Pos}
theorem KT.get {kvs:List (List Key×V)}{ys:List (List Key×Addr×Value)} (r:KT H kvs ys):∀ {i:Nat}{kv:List Key×V},kvs[i]?=some kv->∃ y,ys[i]?=some y/\kv.1=y.1/\H y.2.1=some (.tup (kv.1.map kV)):=by
 induction r with
 |nil=>intro i kv h;simp at h
 |@cons p q ps qs hq t ih =>
  intro i kv h;cases i with
  |zero=>exact ⟨q,rfl,by simp at h;subst h;exact ⟨hq.1,hq.2.1⟩⟩
  |succ i=>simpa using ih (i:=i) (kv:=kv) (by simpa using h)
noncomputable def Itk (d:Addr) (o:Obj) (kvs:List (List Key×V)):It :=
 ⟨fun i H=>H d=some (.frz o (.dT kvs))/\i<kvs.length,fun i H x H'=>H'=H/\∃ t kv,x=.ref t/\kvs[i]?=some kv/\H t=some (.tup (kv.1.map kV)),fun i H=>H d=some (.frz o (.dT kvs))/\kvs.length<=i⟩
theorem zxx {pins:List (Addr×Obj)}{s:Shared}{d:Addr}{o:Obj}{kvs:List (List Key×V)}{es:Array DictEntry}{ep:Nat} (I:Inv X pins σ H s) (h:H d=some (.frz o (.dT kvs))) (he:o.data=.dict es ep) :
  s.heap.DictRaw d es ep/\es.size=kvs.length/\(d==sysModules)=false/\∀ (i:Nat) kv,kvs[i]?=some kv->∃ t e,es[i]?=some e/\e.key=.ref t/\H t=some (.tup (kv.1.map kV)):=by
 obtain ⟨g,z,y,xs,r,o',es',ep',h1,h2,h3,h4,h5⟩:=(show wk X.prog X.w H s.heap d (.frz o (.dT kvs)) from I.hok d _ h)
 rw [g] at h1;cases h1
 rw [he] at h3;cases h3
 have hl:es.size=xs.length:=size_of_entries h4;refine ⟨⟨o,g,h2,he⟩,by rw [hl,<- r.length],y,fun i kv hkv=>?_⟩;obtain ⟨q,hq,e1,e2⟩:=KT.get r hkv;exact ⟨q.2.1,_,by rw [entry_at h4,hq];rfl,rfl,e2⟩
theorem zw1 {P:Program}{w:World}{K:PySem.W.Frag}{tg:Expr} (d it:Addr) (o:Obj) (kvs:List (List Key×V)) (es:Array DictEntry) (ep:Nat) (he:o.data=.dict es ep) (hne:d≠it):Turn P w K tg (Itk d o kvs) [it] it (fun i h=>h.IsKeyIter it d i es.size ep) where
 mem:=by simp
 obj:=fun i h st b hb=>by
  have e:b=it:=by simpa using hb
  subst e;obtain ⟨o,e,c,dd⟩:=st;exact ⟨o,e,fun v z=>by rw [dd] at z;cases z⟩
 keep:=fun i h h' st k=>st.at fun o e=>k it (by simp) o e
 item:=by
  intro X hP hw hK hc i pins s σ H E I hf st hg;subst hP hw hK;obtain ⟨hq,hi⟩:=hg;obtain ⟨raw,hs,_,at'⟩:=zxx I hq he;obtain ⟨t,e,h1,h2,h3⟩:=at' i kvs[i] (by simp [hi]);obtain ⟨f0,f1,f2,f3,f4,f5⟩:=hf it (by simp);have hlt:i<es.size:=by lia
  refine zy9 st raw hlt fun h' st' sb=>?_;have I1:Inv X pins σ H { s with heap:=h' }:=I.turned (t':=s.toks) (fun b o hb e=>(sb.2 b hb).trans e) f0 f1 f3 f4 f5;have ek:es[i].key=.ref t:=by
   rw [Array.getElem?_eq_getElem hlt] at h1;cases h1;exact h2
  rw [ek];obtain ⟨oi,e',c,dd⟩:=id st';exact ⟨.ref t,rfl,z29 (s:={ s with heap:=h' }) e' c dd (by decide) ⟨.ref t,H,I1,rfl,⟨rfl,t,kvs[i],rfl,by simp [hi],h3⟩,st',fun b hb=>(hf b hb).1⟩⟩
 done:=by
  intro X hP hw hK hc i pins s σ H E I hf st hg;subst hP hw hK;obtain ⟨hq,hi⟩:=hg;obtain ⟨raw,hs,_,_⟩:=zxx I hq he;obtain ⟨f0,f1,f2,f3,f4,f5⟩:=hf it (by simp);exact z1u (I.ok.hd hc) st raw (by lia) fun h' eb=>⟨rfl,I.turned (t':=s.toks) (fun b o hb e=>eb b o hb e) f0 f1 f3 f4 f5⟩
 self:=fun _ _ _ _ _ st h=>wpAny_pyIter_keyiter st h
noncomputable def AtK (R:It->Hp->Prop) (x:V) (H1:Hp):Prop:=∃ d kvs,x=.ref d/\H1 d=some (.dT kvs)/\∀ o,R (Itk d o kvs) (upd H1 d (.frz o (.dT kvs)))
noncomputable def z5y (tl:TE):TI:=fun σ H R=>tl σ H fun x H1=>AtK R x H1
theorem Inv.freeze {pins:List (Addr×Obj)}{s:Shared}{d:Addr}{o:Obj}{kvs:List (List Key×V)} (I:Inv X pins σ H s) (h:H d=some (.dT kvs)) (g:s.heap.get? d=some o):Inv X pins σ (upd H d (.frz o (.dT kvs))) s:=by
 have hd:=I.hok d _ h;have new:wk X.prog X.w (upd H d (.frz o (.dT kvs))) s.heap d (.frz o (.dT kvs)):=by
  refine ⟨g,?_⟩;obtain ⟨z,y,xs,r,rest⟩:=(show wk X.prog X.w H s.heap d (.dT kvs) from hd)
  exact ⟨z,y,xs,KT.keeps r fun b ys e=>zf e (z22 e h (by intro z;cases z)),rest⟩
 exact I.write (t':=s.toks) (h':=s.heap) (by rw [h];exact True.intro) (.inl rfl) (fun _ _ _ e=>e) ⟨o,g⟩ new
theorem z3a {l:Expr}{tl:TE} (hl:PE X l tl):PI X tg l (z5y tl):=by
 intro pins s σ H R I h;refine thn (hl pins s σ H _ I h) fun v s1 ⟨x,H1,I1,r1,q1⟩=>?_;obtain ⟨d,kvs,e,hd,q⟩:=q1;subst e;cases r1
 obtain ⟨z,y,xs,r,o,es,ep,h1,h2,h3,h4,h5⟩:=(show wk X.prog X.w H1 s1.heap d (.dT kvs) from I1.hok d _ hd)
 have I2:=I1.freeze hd h1;have lt:=Heap.lt_size h1;refine zyq y ⟨o,h1,h2,h3⟩ ?_;refine ⟨s1.heap.objs.size,[s1.heap.objs.size],_,_,_,rfl,I2.kept (t':=s1.toks) fun b o e=>Heap.get?_push_of_some _ e,zw1 d _ o kvs es ep h3 (Nat.ne_of_lt lt),⟨_,Heap.get?_push_size _ rfl,rfl,rfl⟩,fun b hb=>?_,q o⟩;have e:b=s1.heap.objs.size:=by simpa using hb
 subst e;exact I2.fpOk (Nat.le_refl _) (I2.hok.fresh (Nat.le_refl _))
theorem z28 {tl:TE}{R:It->Hp->Prop} (h:tl σ H fun x H1=>AtK R x H1):z5y tl σ H R:=h
theorem z85 {d:Addr}{kvs:List (List Key×V)}{R:It->Hp->Prop} (hd:H d=some (.dT kvs)) (h:∀ o,R (Itk d o kvs) (upd H d (.frz o (.dT kvs)))):AtK R (.ref d) H:=⟨d,kvs,rfl,hd,h⟩
theorem z39 {d:Addr}{o:Obj}{kvs:List (List Key×V)}:Ov (Itk d o kvs) kvs (fun H=>H d=some (.frz o (.dT kvs))) (fun y x H H'=>∃ t,x=.ref t/\H'=H/\H t=some (.tup (y.1.map kV))) where
 go:=fun i H h hi=>⟨h,hi⟩
 stop:=fun i H h hi=>⟨h,hi⟩
 yld:=fun i H x H' y h hy ⟨e,t,kv,e1,e2,e3⟩=>by
  rw [hy] at e2;cases e2
  exact ⟨t,e1,e,e3⟩
theorem z3e {neg:Bool}{a t:Addr}{i j:Int}{o:Obj}{kvs:List (List Key×V)} (ha:H a=some (.frz o (.dT kvs))) (ht:H t=some (.tup [.int i,.int j])) (h:Q (.bl (if neg=true then !(zbr kvs (kP i j)).isSome else (zbr kvs (kP i j)).isSome)) H):DIn neg Q (.ref t) (.ref a) H :=
 ⟨a,zbr kvs (kP i j),rfl,.inr ⟨kvs,kP i j,t,.inr ⟨o,ha⟩,rfl,ht,rfl⟩,h⟩
noncomputable def z6j (xs:List V) (H:Hp) (Q:VK):Prop:=∃ d kvs,xs=[.ref d]/\H d=some (.dT kvs)/\∀ l (ts:List Addr),H l=none->ts.length=kvs.length->(∀ (i:Nat) t,ts[i]?=some t->∃ kv,kvs[i]?=some kv/\H t=some (.tup (kv.1.map kV)))->Q (.ref l) (upd H l (.lst (ts.map V.ref)))
theorem z56 {P:Program}{w:World}{d:Addr}{es:Array DictEntry}{ep:Nat} (lo:(d==sysModules)=false):PySem.W.KdlSrc P w "dict" d d es.size (fun i v=>∃ e,es[i]?=some e/\v=e.key) (fun h=>h.DictRaw d es ep) where
 type:=fun _ hm=>hm.ty
 there:=fun _ hm=>by obtain ⟨o,ho,_⟩:=hm;exact ⟨Heap.lt_size ho,Heap.lt_size ho⟩
 keep:=fun _ _ hm hk=>hm.to fun o e=>hk d (.inl rfl) o e
 notList:=by decide
 notTuple:=by decide
 hint:=fun _ _ _ _ hm hq=>PySem.W.kdl_hint_dict hm.ty hq
 iter:=fun _ s hh hm=>by
  obtain ⟨o,ho,r⟩:=id hm;exact ⟨_,_,(fun _ _ hq=>zyq lo hm hq),zz9 hh _ d (Nat.ne_of_lt (Heap.lt_size ho)) es ep,⟨⟨_,Heap.get?_push_size _ rfl,rfl,rfl⟩,hm.to fun o e=>Heap.get?_push_of_some _ e⟩⟩
theorem zl0:∀ (ts:List Addr),Vals (ts.map V.ref) (ts.map Value.ref)
 |[]=>.nil
 |t::ts=>.cons rfl (zl0 ts)
theorem zq9 (hc:X.calm=true):zca X (.type "list") z6j:=by
 intro pins s σ H xs us Q I r h;obtain ⟨d,kvs,rfl,hd,q⟩:=h;obtain ⟨u,rfl,ru⟩:=vals1 r;cases ru
 obtain ⟨z,y,ys,kt,o,es,ep,h1,h2,h3,h4,h5⟩:=(show wk X.prog X.w H s.heap d (.dT kvs) from I.hok d _ hd)
 have hl:es.size=ys.length:=size_of_entries h4;have hlk:=kt.length;refine PySem.W.kdl_call (z56 (es:=es) (ep:=ep) y) (I.ok.hd hc) ⟨o,h1,h2,h3⟩ (by lia) fun h' tk acc c kp hD hacc=>?_;have ea:acc.toList=(ys.map fun q=>q.2.1).map Value.ref:=by
  refine List.ext_getElem? fun i=>?_;rcases Nat.lt_or_ge i ys.length with hi|hi
  ·have hi2:i<acc.size:=by rw [hacc.1,hl];exact hi
   have e1:acc.toList[i]?=some acc[i]:=by simp [hi2]
   obtain ⟨e,he,hv⟩:=hacc.2 i acc[i] (by simp [hi2]);rw [entry_at h4,List.getElem?_eq_getElem hi] at he;have he:entryOfKey (tupleKind (kh X.prog X.w)) ys[i]=e:=Option.some.inj he;rw [e1,hv,<- he];simp [hi,entryOfKey]
  ·rw [List.getElem?_eq_none (by rw [Array.length_toList,hacc.1,hl];exact hi),List.getElem?_eq_none (by simp;exact hi)]
 have fr:=I.hok.fresh (Nat.le_refl s.heap.objs.size);refine ⟨.ref s.heap.objs.size,_,I.laid (o:=.lst ((ys.map fun q=>q.2.1).map V.ref)) (h':=h') (t':=tk) kp (Nat.le_refl _) (show wk X.prog X.w _ h' _ (.lst _) from ⟨?_,acc.toList,c,?_,?_⟩),rfl,q _ _ fr ?_ ?_⟩
 ·rw [List.length_map,List.length_map];lia
 ·rw [ea];exact zl0 _
 ·rw [hD]
 ·rw [List.length_map];lia
 ·intro i t ht;rw [List.getElem?_map] at ht;obtain ⟨q',hq,e⟩:=Option.map_eq_some_iff.mp ht;have hi:i<kvs.length:=by have:=(List.getElem?_eq_some_iff.mp hq).1;lia
  obtain ⟨y2,hy2,e1,e2⟩:=KT.get kt (i:=i) (kv:=kvs[i]) (by simp [hi]);rw [hq] at hy2;cases hy2
  exact ⟨kvs[i],by simp [hi],by rw [<- e];exact e2⟩
noncomputable def z5q (tk tv:TE):TE:=fun σ H Q=>∀ p,H p=none->tk σ (upd H p (.dT [])) fun x H1=>tv σ H1 fun y H2=>∃ b k,x=.ref b/\H2 p=some (.dT [])/\H2 b=some (.tup (k.map kV))/\Q (.ref p) (upd H2 p (.dT [(k,y)]))
theorem zz1 {k v:Expr}{tk tv:TE} (hu:X.A.units+64<cLine) (hk:PE X k tk) (hv:PE X v tv):PE X (.Dict [some k] [v] pos) (z5q tk tv):=by
 intro pins s σ H Q I q;have hn:=I.hok.fresh (Nat.le_refl s.heap.objs.size);have I1:=I.laid (a:=s.heap.objs.size) (o:=.dT []) (h':=s.heap.push { cls:=.type "dict",data:=.dict #[] }) (t':=s.toks) (fun _ _ q=>Heap.get?_push_of_some _ q) (Nat.le_refl _) (zub s.heap I.big);refine wpAny_Dict_any (by rfl) rfl (by simp) (show 1<=15 by decide) ?_;have qq:zy7 [(tk,tv)] σ (upd H s.heap.objs.size (.dT [])) (fun ps H2=>List.rec (motive:=fun _=>Prop) False (fun p t _=>List.rec (motive:=fun _=>Prop) (∃ b k,p.1=.ref b/\H2 s.heap.objs.size=some (.dT [])/\H2 b=some (.tup (k.map kV))/\Q (.ref s.heap.objs.size) (upd H2 s.heap.objs.size (.dT [(k,p.2)]))) (fun _ _ _=>False) t) ps):=q _ hn;refine thn ((z0l hk hv z3b:PPs X pos [some k] [v] [(tk,tv)]) pins _ σ _ _ I1 qq) fun vs s2 ⟨ps,H2,I2,rel,q2⟩=>?_;cases rel with
 |nil=>exact q2.elim
 |@cons p uu _ _ rab rr =>
  cases rr with
  |cons _ _=>exact q2.elim
  |nil =>
  obtain ⟨b,kk,e2,hp,hb,q2⟩:=q2;obtain ⟨x,y⟩:=p;obtain ⟨u,u'⟩:=uu;obtain ⟨ra,rb⟩:=rab;change x=_ at e2
  subst e2;cases ra
  obtain ⟨z,hsys,ys,kt,o,es,ep,h1,h2,h3,h4,h5⟩:=(show wk X.prog X.w H2 s2.heap s.heap.objs.size (.dT []) from I2.hok _ _ hp)
  cases kt
  have hkey:(tupleKind (kh X.prog X.w)).is s2.heap kk b:=zn2 I2.hok hb fun _ _ e=>e;have dd:s2.heap.DictOfH (tupleKind (kh X.prog X.w)) s.heap.objs.size []:=⟨o,es,ep,h1,h2,h3,h4,by simp,h5⟩
  unfold storeAll;rw [List.forIn_cons];refine wpAny_bind (wpAny_bind (wpAny_dictSet_heap (hsz:=by simp) (show X.A.units<cLine by lia) hkey dd fun h' dd' sm=>wpAny_pure ?_));dsimp only;rw [List.forIn_nil];refine wpAny_pure ⟨.ref s.heap.objs.size,_,?_,rfl,q2⟩;obtain ⟨o',es',ep',g1,g2,g3,g4,g5,g6⟩:=dd';have kt':KT (upd H2 s.heap.objs.size (.dT [(kk,y)])) [(kk,y)] (storedH [] kk b u'):=(KT.put (H:=H2) (kvs:=[]) (xs:=[]) .nil kk hb rb).keeps fun c xs e=>zf e (z22 e hp (by intro z;cases z));exact I2.write (by rw [hp];exact True.intro) (.inl rfl) (fun c u hc e=>by rw [sm.2 c hc];exact e) ⟨o',g1⟩ (show wk X.prog X.w _ h' _ (.dT [(kk,y)]) from ⟨by show 1<=sizeLine;decide,hsys,_,kt',o',es',ep',g1,g2,g3,g4,g6⟩)
end
end L2
namespace Lf
noncomputable def zbb (row one other:List Int) (p:Int×Int):List (Int×Int) :=
 (if p.1<(one.length:Int)/\one.getD p.1.toNat 0=row.getD (p.1+p.2).toNat 0 then [(p.1+1,p.2)] else []) ++
 (if p.2<(other.length:Int)/\other.getD p.2.toNat 0=row.getD (p.1+p.2).toNat 0 then [(p.1,p.2+1)] else [])
structure Box (one other:List Int) (p:Int×Int):Prop where
 i0:0<=p.1
 i1:p.1<=(one.length:Int)
 j0:0<=p.2
 j1:p.2<=(other.length:Int)
theorem zg8 {row one other:List Int}{p q:Int×Int}:q∈zbb row one other p↔(p.1<(one.length:Int)/\one.getD p.1.toNat 0=row.getD (p.1+p.2).toNat 0/\q=(p.1+1,p.2))\/(p.2<(other.length:Int)/\other.getD p.2.toNat 0=row.getD (p.1+p.2).toNat 0/\q=(p.1,p.2+1)):=by
 unfold zbb;rw [List.mem_append];refine or_congr ?_ ?_
 ·split
  ·next h=>simp only [List.mem_singleton];exact ⟨fun e=>⟨h.1,h.2,e⟩,fun e=>e.2.2⟩
  ·next h=>simp only [List.not_mem_nil,false_iff];exact fun e=>h ⟨e.1,e.2.1⟩
 ·split
  ·next h=>simp only [List.mem_singleton];exact ⟨fun e=>⟨h.1,h.2,e⟩,fun e=>e.2.2⟩
  ·next h=>simp only [List.not_mem_nil,false_iff];exact fun e=>h ⟨e.1,e.2.1⟩
theorem zxe {row one other:List Int}{p q:Int×Int} (B:Box one other p) (h:q∈zbb row one other p):Box one other q:=by
 obtain ⟨b1,b2,b3,b4⟩:=B;rcases zg8.mp h with ⟨h1,_,rfl⟩|⟨h1,_,rfl⟩
 ·exact ⟨by show 0<=p.1+1;lia,by show p.1+1<=_;lia,b3,b4⟩
 ·exact ⟨b1,b2,by show 0<=p.2+1;lia,by show p.2+1<=_;lia⟩
theorem zyg {row one other:List Int}{p:Int×Int}:(zbb row one other p).length<=2:=by
 unfold zbb;split<;>split<;>simp
structure Bfs (row one other:List Int) (ps:List (Int×Int)) (par:Int×Int->Option (Int×Int)) (gone:Nat):Prop where
 nodup:ps.Nodup
 box:∀ p∈ps,Box one other p
 zero:((0,0):Int×Int)∈ps
 keys:∀ p,(par p).isSome=true↔p∈ps
 step:∀ p q,par p=some q->p≠(0,0)->q∈ps/\p∈zbb row one other q
 done:∀ k,k<gone->∀ q∈zbb row one other (ps.getD k (0,0)),q∈ps
noncomputable def z1c (a b:Nat):List (Int×Int):=((List.range a).map fun i:Nat=>(List.range b).map fun j:Nat=>((i:Int),(j:Int))).flatten
theorem zrw (b:Nat):∀ a,(z1c a b).length=a*b
 |0=>by simp [z1c]
 |a+1=>by
  have ih:=zrw b a;unfold z1c at ih ⊢;rw [List.range_succ,List.map_append,List.flatten_append,List.length_append,ih,Nat.succ_mul];simp
theorem Bfs.len {row one other:List Int}{ps:List (Int×Int)}{par:Int×Int->Option (Int×Int)}{gone:Nat} (B:Bfs row one other ps par gone):ps.length<=(one.length+1)*(other.length+1):=by
 rw [<- zrw];refine za5 _ _ B.nodup fun p hp=>?_;obtain ⟨b1,b2,b3,b4⟩:=B.box p hp;unfold z1c;rw [List.mem_flatten];refine ⟨_,List.mem_map.mpr ⟨p.1.toNat,List.mem_range.mpr (by lia),rfl⟩,List.mem_map.mpr ⟨p.2.toNat,List.mem_range.mpr (by lia),?_⟩⟩;rw [Int.toNat_of_nonneg b1,Int.toNat_of_nonneg b3]
theorem Bfs.start (row one other:List Int):Bfs row one other [(0,0)] (fun p=>if p=(0,0) then some (0,0) else none) 0:=by
 refine ⟨by simp,fun p hp=>?_,by simp,fun p=>?_,fun p q h hn=>?_,fun k hk=>by lia⟩
 ·have:p=(0,0):=by simpa using hp
  subst this;exact ⟨by show (0:Int)<=0;lia,by show (0:Int)<=_;lia,by show (0:Int)<=0;lia,by show (0:Int)<=_;lia⟩
 ·by_cases h:p=(0,0)<;>simp [h]
 ·rw [if_neg hn] at h;cases h
structure zqj (row one other:List Int) (ps:List (Int×Int)) (par:Int×Int->Option (Int×Int)) (gone:Nat) (pair:Int×Int) (k:Nat):Prop where
 b:Bfs row one other ps par gone
 here:ps.getD gone (0,0)=pair
 lt:gone<ps.length
 fst:∀ q∈(zbb row one other pair).take k,q∈ps
theorem zqj.skip {row one other:List Int}{ps:List (Int×Int)}{par:Int×Int->Option (Int×Int)}{gone k:Nat}{pair q:Int×Int} (B:zqj row one other ps par gone pair k) (hq:(zbb row one other pair)[k]?=some q) (h:q∈ps):zqj row one other ps par gone pair (k+1):=by
 obtain ⟨hk,e⟩:=List.getElem?_eq_some_iff.mp hq;refine ⟨B.b,B.here,B.lt,fun p hp=>?_⟩;rw [List.take_succ_eq_append_getElem hk,e] at hp;rcases List.mem_append.mp hp with z|z
 ·exact B.fst p z
 ·have:p=q:=by simpa using z
  rw [this];exact h
theorem zqj.add {row one other:List Int}{ps:List (Int×Int)}{par par':Int×Int->Option (Int×Int)}{gone k:Nat}{pair q:Int×Int} (B:zqj row one other ps par gone pair k) (hq:(zbb row one other pair)[k]?=some q) (h:q∉ps) (hp:∀ p,par' p=if p=q then some pair else par p):zqj row one other (ps++[q]) par' gone pair (k+1):=by
 obtain ⟨hk,e⟩:=List.getElem?_eq_some_iff.mp hq;have hin:pair∈ps:=by
  rw [<- B.here,List.getD_eq_getElem?_getD,List.getElem?_eq_getElem B.lt];exact List.getElem_mem _
 have hqn:q∈zbb row one other pair:=by rw [<- e];exact List.getElem_mem _
 have g:∀ i,i<ps.length->(ps++[q]).getD i (0,0)=ps.getD i (0,0):=fun i hi=>by
  rw [List.getD_eq_getElem?_getD,List.getElem?_append_left hi,<- List.getD_eq_getElem?_getD]
 refine ⟨⟨?_,fun p hp'=>?_,List.mem_append_left _ B.b.zero,fun p=>?_,fun p p' h1 h2=>?_,fun i hi p hp'=>?_⟩,?_,?_,fun p hp'=>?_⟩
 ·rw [List.nodup_append];refine ⟨B.b.nodup,by simp,fun x hx y hy=>?_⟩;have:y=q:=by simpa using hy
  rw [this];exact fun z=>h (z▸hx)
 ·rcases List.mem_append.mp hp' with z|z
  ·exact B.b.box p z
  ·have:p=q:=by simpa using z
   rw [this];exact zxe (B.b.box _ hin) hqn
 ·rw [hp p,List.mem_append];by_cases z:p=q
  ·rw [if_pos z];simp [z]
  ·rw [if_neg z,B.b.keys p];simp [z]
 ·rw [hp p] at h1;by_cases z:p=q
  ·rw [if_pos z] at h1;cases h1
   exact ⟨List.mem_append_left _ hin,z▸hqn⟩
  ·rw [if_neg z] at h1;have:=B.b.step p p' h1 h2;exact ⟨List.mem_append_left _ this.1,this.2⟩
 ·rw [g i (Nat.lt_trans hi B.lt)] at hp';exact List.mem_append_left _ (B.b.done i hi p hp')
 ·rw [g _ B.lt];exact B.here
 ·rw [List.length_append];have:=B.lt;lia
 ·rw [List.take_succ_eq_append_getElem hk,e] at hp';rcases List.mem_append.mp hp' with z|z
  ·exact List.mem_append_left _ (B.fst p z)
  ·exact List.mem_append_right _ z
theorem zqj.turn {row one other:List Int}{ps:List (Int×Int)}{par:Int×Int->Option (Int×Int)}{gone k:Nat}{pair:Int×Int} (B:zqj row one other ps par gone pair k) (hk:(zbb row one other pair).length<=k):Bfs row one other ps par (gone+1):=by
 refine ⟨B.b.nodup,B.b.box,B.b.zero,B.b.keys,B.b.step,fun i hi q hq=>?_⟩;rcases Nat.lt_or_ge i gone with z|z
 ·exact B.b.done i z q hq
 ·have:i=gone:=by lia
  subst this;rw [B.here] at hq;refine B.fst q ?_;rw [List.take_of_length_le hk];exact hq
end Lf
namespace Lf
noncomputable def dd:List Int->List Int
 |[]=>[]
 |x::r=>x::(dd r).filter fun y=>decide (y≠x)
theorem zxj:∀ (l:List Int) (a:Int),a∈dd l↔a∈l
 |[],a=>by simp [dd]
 |x::r,a=>by
  rw [dd,List.mem_cons,List.mem_cons,List.mem_filter,zxj r a];by_cases h:a=x<;>simp [h]
theorem zq7:∀ l:List Int,(dd l).Nodup
 |[]=>by simp [dd]
 |x::r=>by
  rw [dd,List.nodup_cons];refine ⟨fun h=>?_,(zq7 r).filter _⟩;have:=(List.mem_filter.mp h).2;simp at this
noncomputable def uo (kinds x:Int):Bool:=decide (0<=x/\x<kinds)
noncomputable def zc5 (kinds:Int) (l:List Int):Nat:=(dd (l.filter (uo kinds))).length
theorem zvy {kinds:Int}{l m:List Int} (h1:m.Nodup) (h2:∀ a,a∈m↔a∈l/\uo kinds a=true):m.length=zc5 kinds l:=by
 unfold zc5;refine zii h1 (zq7 _) fun a=>?_;rw [h2,zxj,List.mem_filter]
noncomputable def zpb (n:Nat):List Int:=(List.range n).map fun i:Nat=>(i:Int)
theorem zvh {n:Nat}{a:Int}:a∈zpb n↔0<=a/\a<(n:Int):=by
 unfold zpb;rw [List.mem_map];constructor
 ·rintro ⟨i,hi,rfl⟩;have:=List.mem_range.mp hi;lia
 ·rintro ⟨h1,h2⟩;exact ⟨a.toNat,List.mem_range.mpr (by lia),by lia⟩
theorem zsj (n:Nat):(zpb n).Nodup:=by
 unfold zpb;refine List.pairwise_map.mpr (List.nodup_range.imp fun {a b} h e=>h ?_);lia
theorem zvi (n:Nat):(zpb n).length=n:=by unfold zpb;simp
noncomputable def zsw (row:List Int) (kinds:Int):Int->List Int->Prop
 |_,[]=>True
 |b,e::r=>b<e/\e<=(row.length:Int)/\(zc5 kinds (cut row b e):Int)=kinds/\zsw row kinds e r
structure z7a (row:List Int) (kinds:Int) (cuts word:List Int):Prop where
 len:word.length=cuts.length+1
 kin:∀ s∈word,0<=s/\s<kinds
 gone:isLeft row word=false
 cuts:zsw row kinds 0 cuts
noncomputable def missed (row:List Int) (kinds:Int) (cuts word:List Int):Bool:=@decide (z7a row kinds cuts word) (Classical.propDecidable _)
theorem ztm {row:List Int}{kinds:Int}{cuts word:List Int} (h:z7a row kinds cuts word):missed row kinds cuts word=true:=by
 unfold missed;exact @decide_eq_true _ (Classical.propDecidable _) h
theorem zr8 {row:List Int}{kinds:Int}{cuts word:List Int} (h:¬ z7a row kinds cuts word):missed row kinds cuts word=false:=by
 unfold missed;exact @decide_eq_false _ (Classical.propDecidable _) h
theorem zpf {seen:List Int}{k:Nat} (hn:seen.Nodup) (h:∀ j:Nat,j<k->(j:Int)∈seen):k<=seen.length:=by
 rw [<- zvi k];refine za5 _ _ (zsj k) fun a ha=>?_;have:=zvh.mp ha;have:=h a.toNat (by lia);rw [Int.toNat_of_nonneg (by lia)] at this;exact this
end Lf
namespace Lf
noncomputable def zih (row:List Int) (kinds:Int):Int->List Int->Bool
 |_,[]=>true
 |b,e::r=>decide (b<e)&&decide (e<=(row.length:Int))&&decide ((zc5 kinds (cut row b e):Int)=kinds)&&zih row kinds e r
theorem zob (row:List Int) (kinds:Int):∀ (cuts:List Int) (b:Int),zih row kinds b cuts=true↔zsw row kinds b cuts
 |[],_=>by simp [zih,zsw]
 |e::r,b=>by
  rw [zih,zsw,<- zob row kinds r e];simp only [Bool.and_eq_true,decide_eq_true_eq,and_assoc]
theorem zr9 {row:List Int}{kinds:Int} (hk:1<=kinds):∀ (cuts:List Int) (a b:Int),b-1<=a->a<=b->(rising a ((row.length:Int)+1) cuts&&((b::cuts).zip cuts).all fun y=>decide ((zc5 kinds (cut row y.1 y.2):Int)=kinds))=zih row kinds b cuts
 |[],a,b,_,_=>by simp [rising,zih]
 |e::r,a,b,h1,h2=>by
  rw [rising,List.zip_cons_cons,List.all_cons,zih];by_cases h:b<e
  ·have ih:=zr9 (row:=row) hk r e e (by lia) (Int.le_refl _);rw [<- ih,decide_eq_true h,decide_eq_true (by lia:a<e)];have e1:decide (e<(row.length:Int)+1)=decide (e<=(row.length:Int)):=by
    by_cases z:e<=(row.length:Int)
    ·rw [decide_eq_true z,decide_eq_true (by lia)]
    ·rw [decide_eq_false z,decide_eq_false (by lia)]
   rw [e1];cases decide (e<=(row.length:Int))<;>cases rising e ((row.length:Int)+1) r<;>cases decide ((zc5 kinds (cut row b e):Int)=kinds)<;>simp
  ·rw [decide_eq_false h,Bool.false_and,Bool.false_and,Bool.false_and];by_cases z:a<e
   ·have hc:cut row b e=[]:=zmr (by lia);have:¬ ((zc5 kinds (cut row b e):Int)=kinds):=by
     rw [hc];have:zc5 kinds []=0:=rfl;rw [this];lia
    rw [decide_eq_false this];simp
   ·rw [decide_eq_false z];simp
theorem zhl (row:List Int) (kinds:Int) (cuts word:List Int):missed row kinds cuts word=((word.all fun s=>uo kinds s)&&decide (word.length=cuts.length+1)&&(zih row kinds 0 cuts&&!isLeft row word)):=by
 by_cases h:z7a row kinds cuts word
 ·rw [ztm h,(zob _ _ _ _).mpr h.cuts,h.gone,decide_eq_true h.len];have:(word.all fun s=>uo kinds s)=true:=List.all_eq_true.mpr fun s hs=>decide_eq_true (h.kin s hs);rw [this];rfl
 ·rw [zr8 h];refine (Bool.eq_false_iff.mpr fun z=>h ?_).symm;simp only [Bool.and_eq_true,decide_eq_true_eq,List.all_eq_true,Bool.not_eq_true'] at z;exact ⟨z.1.2,fun s hs=>of_decide_eq_true (z.1.1 s hs),z.2.2,(zob _ _ _ _).mp z.2.1⟩
end Lf
namespace L2
open PySem PySem.Spec PyProof.Rows
section
variable {σ:St}{H H':Hp}{Q:VK}{D:Ends}{K:PySem.W.Frag}{X:Cx}
theorem zny (p:Int×Int):SeqAt.shaped (dP p)=true:=by
 obtain ⟨a,b⟩:=p;rfl
theorem RdV.pair {t:Addr}{i j:Int} (ht:H t=some (.tup [.int i,.int j])):RdV K H (.ref t) (dP (i,j)):=.tup (SqT.of ht) (.cons (.int i) (.cons (.int j) .nil))
theorem z73 {s t:Addr}{i j k l:Int} (h1:H s=some (.tup [.int i,.int j])) (h2:H t=some (.tup [.int k,.int l])) (h:Q (.bl (!decide ((i,j)=(k,l)))) H):rNe (.ref s) (.ref t) H Q\/zt0 K true (.ref s) (.ref t) H Q :=
 .inr ⟨_,_,RdV.pair h1,RdV.pair h2,zny _,zny _,by rw [if_pos rfl,z2f];exact h⟩
noncomputable def GD (Q:VK) (x y:V) (H2:Hp):Prop:=∃ a v,x=.ref a/\zs6 H2 a y (some v)/\Q v H2
theorem z5w {td ty:TE} (h:td σ H fun x H1=>ty σ H1 fun y H2=>GD Q x y H2):z5n td ty σ H Q:=h
theorem z84 {a t:Addr}{i j:Int}{v:V}{kvs:List (List Key×V)} (ha:H a=some (.dT kvs)) (ht:H t=some (.tup [.int i,.int j])) (e:zbr kvs (kP i j)=some v) (h:Q v H):GD Q (.ref a) (.ref t) H :=
 ⟨a,v,rfl,by rw [<- e];exact zs6.t (k:=kP i j) ha ht,h⟩
theorem z2a {l:Addr}{xs:List V} (hs:H l=some (.lst xs)) (h:∀ p,H p=none->Q (.ref p) (upd H p (.lst xs))):z7b K [.ref l] H Q:=⟨l,xs,rfl,.inl (SqL.of hs),h⟩
theorem z2k {p:Addr}{ts:List Addr}{kvs:List (Key×V)} (hp:H p=some (.lst (ts.map V.ref))) (hl:ts.length=kvs.length) (hz:kvs.length<=1000000) (ht:∀ (i:Nat) t,ts[i]?=some t->∃ kv,kvs[i]?=some kv/\H t=some (.tup [kV kv.1,kv.2]))
  (h:∀ d,H d=none->Q (.ref d) (upd H d (.dK (zb3 [] kvs)))):z17 [.ref p] H Q:=⟨p,ts,kvs,rfl,hp,hl,hz,ht,h⟩
theorem z3m {p:Addr}{ts:List Addr}{kvs:List (List Key×V)} (hp:H p=some (.lst (ts.map V.ref))) (hl:ts.length=kvs.length) (hz:kvs.length<=1000000) (ht:∀ (i:Nat) t,ts[i]?=some t->∃ kv u,kvs[i]?=some kv/\H t=some (.tup [.ref u,kv.2])/\H u=some (.tup (kv.1.map kV)))
  (h:∀ d,H d=none->Q (.ref d) (upd H d (.dT (zai [] kvs)))):z1z [.ref p] H Q:=⟨p,ts,kvs,rfl,hp,hl,hz,ht,h⟩
theorem zje:∀ (more kvs:List (Key×V)) (k:Key),(zbr (zb3 kvs more) k).isSome=true↔(zbr kvs k).isSome=true\/k∈more.map Prod.fst
 |[],kvs,k=>by simp [zb3]
 |p::r,kvs,k=>by
  have ih:=zje r (putK kvs p.1 p.2) k;show (zbr (zb3 (putK kvs p.1 p.2) r) k).isSome=true↔_
  rw [ih,zfj,List.map_cons,List.mem_cons];by_cases e:k=p.1
  ·rw [if_pos e];simp [e]
  ·rw [if_neg e];simp [e]
theorem zjo:∀ (more kvs:List (List Key×V)) (k:List Key),(zbr (zai kvs more) k).isSome=true↔(zbr kvs k).isSome=true\/k∈more.map Prod.fst
 |[],kvs,k=>by simp [zai]
 |p::r,kvs,k=>by
  have ih:=zjo r (putK kvs p.1 p.2) k;show (zbr (zai (putK kvs p.1 p.2) r) k).isSome=true↔_
  rw [ih,zfj,List.map_cons,List.mem_cons];by_cases e:k=p.1
  ·rw [if_pos e];simp [e]
  ·rw [if_neg e];simp [e]
theorem zxv {kvs:List (List Key×V)}{k q:List Key}{v:V} (h:k∈(putK kvs q v).map Prod.fst):k∈kvs.map Prod.fst\/k=q:=by
 unfold putK at h;split at h
 ·refine .inl ?_;rw [List.map_map] at h;have e:((kvs.map (Prod.fst ∘ fun kv=>if kv.1=q then (kv.1,v) else kv)))=kvs.map Prod.fst:=List.map_congr_left fun x _=>by
   show (if x.1=q then (x.1,v) else x).1=x.1
   split<;>rfl
  rw [e] at h;exact h
 ·rw [List.map_append] at h;rcases List.mem_append.mp h with z|z
  ·exact .inl z
  ·exact .inr (by simpa using z)
theorem zn0:∀ (more kvs:List (List Key×V)) (k:List Key),k∈(zai kvs more).map Prod.fst->k∈kvs.map Prod.fst\/k∈more.map Prod.fst
 |[],kvs,k,h=>.inl h
 |p::r,kvs,k,h=>by
  rcases zn0 r (putK kvs p.1 p.2) k h with q|q
  ·rcases zxv q with z|z
   ·exact .inl z
   ·exact .inr (by rw [z];simp)
  ·exact .inr (List.mem_cons_of_mem _ q)
end
noncomputable abbrev kPp (q:Int×Int):List Key:=kP q.1 q.2
structure zji (H:Hp) (kvs:List (List Key×V)) (par:Int×Int->Option (Int×Int)):Prop where
 no:∀ p,par p=none->zbr kvs (kPp p)=none
 yes:∀ p q,par p=some q->∃ t,zbr kvs (kPp p)=some (.ref t)/\H t=some (.tup [.int q.1,.int q.2])
section
variable {H H':Hp}
theorem zji.same {kvs:List (List Key×V)}{par:Int×Int->Option (Int×Int)} (A:zji H kvs par) (h:∀ t xs,H t=some (.tup xs)->H' t=some (.tup xs)):zji H' kvs par :=
 ⟨A.no,fun p q e=>let ⟨t,h1,h2⟩:=A.yes p q e;⟨t,h1,h _ _ h2⟩⟩
theorem zji.some_iff {kvs:List (List Key×V)}{par:Int×Int->Option (Int×Int)} (A:zji H kvs par) (p:Int×Int):(zbr kvs (kPp p)).isSome=(par p).isSome:=by
 cases e:par p with
 |none=>rw [A.no p e];rfl
 |some q =>
  obtain ⟨t,h1,_⟩:=A.yes p q e;rw [h1];rfl
theorem zrk {p q:Int×Int}:kPp p=kPp q↔p=q:=zyr
theorem zji.put {kvs:List (List Key×V)}{par:Int×Int->Option (Int×Int)} (A:zji H kvs par) {q pair:Int×Int}{t:Addr} (ht:H t=some (.tup [.int pair.1,.int pair.2])):zji H (putK kvs (kPp q) (.ref t)) (fun p=>if p=q then some pair else par p):=by
 refine ⟨fun p e=>?_,fun p r e=>?_⟩
 ·rw [zfj];by_cases z:p=q
  ·rw [if_pos z] at e;cases e
  ·rw [if_neg z] at e;rw [if_neg fun c=>z (zrk.mp c)];exact A.no p e
 ·rw [zfj];by_cases z:p=q
  ·rw [if_pos z] at e;cases e
   exact ⟨t,by rw [if_pos (by rw [z])],ht⟩
  ·rw [if_neg z] at e;rw [if_neg fun c=>z (zrk.mp c)];exact A.yes p r e
theorem z31 {kvs:List (List Key×V)}{k:List Key}{v:V} (h:(zbr kvs k).isSome=false):putK kvs k v=kvs++[(k,v)]:=by
 unfold putK;rw [zfp,h,if_neg (by decide)]
theorem Prs.off {p d:Addr}{ts:List Addr}{ps:List (Int×Int)}{o:HO} (T:Prs H p ts ps) (h1:p≠d) (h2:∀ t∈ts,t≠d):Prs (upd H d o) p ts ps :=
 ⟨zf T.at_ h1,T.len,fun i t ht=>zf (T.row i t ht) (h2 t (List.mem_of_getElem? ht))⟩
theorem Prs.but {ls:List Addr}{p:Addr}{ts:List Addr}{ps:List (Int×Int)} (T:Prs H p ts ps) (s:SameBut ls H H') (h1:p∉ls) (h2:∀ t∈ts,t∉ls):Prs H' p ts ps :=
 ⟨s.at T.at_ h1,T.len,fun i t ht=>s.at (T.row i t ht) (h2 t (List.mem_of_getElem? ht))⟩
theorem Prs.mem {p:Addr}{ts:List Addr}{ps:List (Int×Int)} (T:Prs H p ts ps) {t:Addr} (h:t∈ts):∃ i j,H t=some (.tup [.int i,.int j]):=by
 obtain ⟨n,hn⟩:=List.getElem?_of_mem h;exact ⟨_,_,T.row n t hn⟩
end
theorem z0o {kvs:List (List Key×V)}{k:List Key} (h:(zbr kvs k).isSome=true):∃ kv∈kvs,kv.1=k:=by
 unfold zbr at h;rw [Option.isSome_map,List.find?_isSome] at h;obtain ⟨kv,h1,h2⟩:=h;exact ⟨kv,h1,of_decide_eq_true h2⟩
theorem zm5:∀ (l m:List Int),l.Nodup->(∀ a∈l,a∈m)->m.length<=l.length->m.Perm l
 |[],m,_,_,h=>by
  have:m=[]:=List.length_eq_zero_iff.mp (by simpa using h);rw [this]
 |a::l,m,nd,sub,h=>by
  obtain ⟨na,nd⟩:=List.nodup_cons.mp nd;have ha:=sub a List.mem_cons_self;have p:=List.perm_cons_erase ha;refine p.trans (.cons a (zm5 l (m.erase a) nd (fun b hb=>?_) ?_))
  ·have hm:=p.mem_iff.mp (sub b (List.mem_cons_of_mem _ hb));rcases List.mem_cons.mp hm with z|z
   ·exact absurd (z▸hb) na
   ·exact z
  ·have:=p.length_eq;rw [List.length_cons] at this h;lia
noncomputable abbrev fm (ns:List Int):List Int:=firstMet (fun i=>ns.getD i 0) ns.length
theorem z62 (ns:List Int):(List.range ns.length).map (fun i=>ns.getD i 0)=ns:=by
 refine List.ext_getElem (by simp) fun i h1 h2=>?_;simp [h2]
theorem z18 (ns:List Int) (k:Int):k∈fm ns↔k∈ns:=by
 have:=firstMet_any (fun i=>ns.getD i 0) ns.length k;rw [z62] at this;constructor
 ·intro h;have h1:(fm ns).any (·==k)=true:=List.any_eq_true.mpr ⟨k,h,by simp⟩;rw [this] at h1;obtain ⟨x,hx,e⟩:=List.any_eq_true.mp h1;have:x=k:=by simpa using e
  exact this▸hx
 ·intro h;have h1:ns.any (·==k)=true:=List.any_eq_true.mpr ⟨k,h,by simp⟩;rw [<- this] at h1;obtain ⟨x,hx,e⟩:=List.any_eq_true.mp h1;have:x=k:=by simpa using e
  exact this▸hx
theorem zfy (val:Nat->Int):∀ i,(firstMet val i).Nodup
 |0=>by rw [firstMet_zero];exact .nil
 |i+1=>by
  have ih:=zfy val i;rw [firstMet_succ];unfold step_dedup;split
  ·exact ih
  ·next h =>
   rw [List.nodup_append];refine ⟨ih,by simp,fun x hx y hy=>?_⟩;have:y=val i:=by simpa using hy
   rw [this];intro z;refine h ?_;first
    |exact List.any_eq_true.mpr ⟨x,hx,by simp [z]⟩
    |(rw [<- z];simpa using hx)
theorem z6r (ns:List Int):(fm ns).length=(Lf.dd ns).length:=Lf.zii (zfy _ _) (Lf.zq7 _) fun a=>by rw [z18,Lf.zxj]
noncomputable def isSet (P:Program) (w:World) (d:Addr) (ns:List Int) (h:Heap):Prop:=SetT P w h d (fun k=>(fm ns).any (·==k)) (fm ns).length
section
variable {X:Cx}{σ:St}{H H':Hp}{Q:VK}{D:Ends}{K:PySem.W.Frag}{P:Program}{w:World}
noncomputable def z6i (P:Program) (w:World) (K:PySem.W.Frag) (xs:List V) (H:Hp) (Q:VK):Prop:=∃ (p:Addr) (ns:List Int),xs=[.ref p]/\SqL K H p (ns.map V.int)/\ns.length<=4000/\∀ d,H d=none->Q (.ref d) (upd H d (.ext (isSet P w d ns)))
theorem zse (hc:X.calm=true):zca X (.type "set") (z6i X.prog X.w X.K):=by
 intro pins s σ H xs us Q I r h;obtain ⟨p,ns,rfl,hq,hn,q⟩:=h;obtain ⟨u,rfl,ru⟩:=vals1 r;cases ru
 obtain ⟨its,rv,pl,hz⟩:=I.list hq;have hi:=intsAre_of rv;have hl:=rv.length;rw [List.length_map] at hl;refine zwp (I.ok.hd hc) pl.isList hi (by rw [List.size_toArray,<- hl];exact Nat.lt_of_le_of_lt (Nat.succ_le_succ hn) (by decide)) fun hp' tk hs kp=>?_;have kp':∀ b o,s.heap.get? b=some o->hp'.get? b=some o:=fun b o e=>kp b o (Heap.lt_size e) e;rw [show its.toArray.size=ns.length by rw [List.size_toArray,hl]] at hs;have hs':isSet X.prog X.w s.heap.objs.size ns hp':=hs;refine ⟨.ref s.heap.objs.size,_,I.laid (o:=.ext (isSet X.prog X.w s.heap.objs.size ns)) (h':=hp') (t':=tk) kp' (Nat.le_refl _) (show wk X.prog X.w _ hp' _ (.ext _) from ⟨hs',?_,fun h1 h2 a b=>a.keep b⟩),rfl,q _ (I.hok.fresh (Nat.le_refl _))⟩;obtain ⟨o,_,_,_,e,_⟩:=hs;exact ⟨o,e⟩
noncomputable def z6e (P:Program) (w:World) (xs:List V) (H:Hp) (Q:VK):Prop:=∃ (d:Addr) (ns:List Int),xs=[.ref d]/\H d=some (.ext (isSet P w d ns))/\Q (.int ((Lf.dd ns).length:Nat)) H
theorem zxo:zca X (.builtin "len") (z6e X.prog X.w):=by
 intro pins s σ H xs us Q I r h;obtain ⟨d,ns,rfl,hd,q⟩:=h;obtain ⟨u,rfl,ru⟩:=vals1 r;cases ru
 obtain ⟨hs,_,_⟩:=(show wk X.prog X.w H s.heap d (.ext (isSet X.prog X.w d ns)) from I.hok d _ hd)
 obtain ⟨o,es,ep,t,h1,h2,h3,h4,h5,h6,h7,h8,T⟩:=hs;have hb:es.size<4096:=h6;refine call_len_set h1 h2 h3 h7 (by lia) ⟨.int ((Lf.dd ns).length:Nat),H,I.tok _,⟨s.toks+1,?_⟩,q⟩;rw [h8,z6r]
noncomputable def z2g (P:Program) (w:World) (xs:List V) (H:Hp) (Q:VK):Prop:=∃ (d:Addr) (ns:List Int),xs=[.ref d]/\H d=some (.ext (isSet P w d ns))/\ns.length<64/\∀ l (ms:List Int),H l=none->ms.Nodup->(∀ a,a∈ms↔a∈ns)->Q (.ref l) (upd H l (.lst (ms.map V.int)))
theorem Inv.drawn {pins:List (Addr×Obj)}{s:Shared} (I:Inv X pins σ H s) (d:Drawn):Inv X pins σ H { s with drawn:=d }:=⟨I.ok,I.os,I.bare,I.base,I.loc,I.cell,I.free,I.freeC,I.pin,I.hok,I.len⟩
theorem zj8 {P:Program}{w:World}:∀ (es:List (Int×Value)),ElemsOf (intKind P w) es->∃ ns,IntsAre (es.map (·.2)) ns/\∀ k,k∈ns↔∃ e∈es,(intKind P w).is k e.2=true
 |[],_=>⟨[],.nil,fun k=>by simp⟩
 |e::r,h=>by
  obtain ⟨ns,h1,h2⟩:=zj8 r fun e' he'=>h e' (List.mem_cons_of_mem _ he');obtain ⟨⟨k,hk,_⟩,_⟩:=h e List.mem_cons_self;obtain ⟨t,ht⟩:=Value.isInt_shape hk;refine ⟨k::ns,by rw [List.map_cons,ht];exact .cons k t h1,fun k'=>?_⟩;rw [List.mem_cons,h2];constructor
  ·rintro (z|⟨e',he',z⟩)
   ·subst z;exact ⟨e,List.mem_cons_self,hk⟩
   ·exact ⟨e',List.mem_cons_of_mem _ he',z⟩
  ·rintro ⟨e',he',z⟩;rcases List.mem_cons.mp he' with u|u
   ·subst u;obtain ⟨t',ht'⟩:=Value.isInt_shape z;rw [ht] at ht';cases ht'
    exact .inl rfl
   ·exact .inr ⟨e',u,z⟩
theorem zvd (hc:X.calm=true):zca X (.builtin "sorted") (z2g X.prog X.w):=by
 intro pins s σ H xs us Q I r h;obtain ⟨d,ns,rfl,hd,hl,q⟩:=h;obtain ⟨u,rfl,ru⟩:=vals1 r;cases ru
 obtain ⟨hs,_,_⟩:=(show wk X.prog X.w H s.heap d (.ext (isSet X.prog X.w d ns)) from I.hok d _ hd)
 obtain ⟨o,es,ep,t,h1,h2,h3,h4,h5,h6,h7,h8,T⟩:=hs;obtain ⟨L,hI,hmem⟩:=zj8 es.toList h4;have hfl:(fm ns).length<=ns.length:=firstMet_length_le _ _;have hLl:L.length=es.size:=by have:=IntsAre.length hI;simpa using this.symm
 have hLp:L.Perm (fm ns):=zm5 (fm ns) L (zfy _ _) (fun a ha=>(hmem a).mpr ((h5 a).mp (List.any_eq_true.mpr ⟨a,ha,by simp⟩))) (by lia);refine zvt (I.ok.hd hc) ⟨o,h1,h2,h3,h7⟩ T (by lia) hI fun h' dr tk out ns' D c hD kp hg hI' hp hs=>?_;have hnd:ns'.Nodup:=(hp.trans hLp).nodup_iff.mpr (zfy _ _);have hmm:∀ a,a∈ns'↔a∈ns:=fun a=>by rw [(hp.trans hLp).mem_iff];exact z18 ns a
 have hlen:ns'.length<64:=by have:=(hp.trans hLp).length_eq;lia
 have I1:=I.drawn dr;refine ⟨.ref D,_,Inv.laid (s:={ s with drawn:=dr }) I1 (o:=.lst (ns'.map V.int)) (h':=h') (t':=tk) kp hD (show wk X.prog X.w _ h' D (.lst _) from ⟨?_,out.toList,c,?_,?_⟩),rfl,q D ns' (I.hok.fresh hD) hnd hmm⟩
 ·rw [List.length_map];exact Nat.le_trans (Nat.le_of_lt hlen) (by decide)
 ·exact znw hI'
 ·rw [hg]
theorem z1s {p:Addr}{ns:List Int} (hs:SqL K H p (ns.map V.int)) (hn:ns.length<=4000) (h:∀ d,H d=none->Q (.ref d) (upd H d (.ext (isSet P w d ns)))):z6i P w K [.ref p] H Q:=⟨p,ns,rfl,hs,hn,h⟩
theorem z4j {d:Addr}{ns:List Int} (hd:H d=some (.ext (isSet P w d ns))) (h:Q (.int ((Lf.dd ns).length:Nat)) H):z6e P w [.ref d] H Q:=⟨d,ns,rfl,hd,h⟩
theorem z33 {d:Addr}{ns:List Int} (hd:H d=some (.ext (isSet P w d ns))) (hn:ns.length<64) (h:∀ l (ms:List Int),H l=none->ms.Nodup->(∀ a,a∈ms↔a∈ns)->Q (.ref l) (upd H l (.lst (ms.map V.int)))):z2g P w [.ref d] H Q:=⟨d,ns,rfl,hd,hn,h⟩
end
section
variable {σ:St}{H H':Hp}{Q:VK}{D:Ends}{K:PySem.W.Frag}{X:Cx}
theorem z46 {K:PySem.W.Frag}:PySem.W.kitOne K (.type "bool") (.type "bool")=some true:=rfl
theorem zzr {z:Bool} (h:Q (.bl true) H):z1x K [.bl z,.ty "bool"] H Q:=zwo rfl (.bl z) z46 h
theorem z32 {x y:V}{d:PyData} (h1:RdV K H x d) (h2:RdV K H y d) (hs:SeqAt.shaped d=true) (h:Q (.bl false) H):rNe x y H Q\/zt0 K true x y H Q :=
 .inr ⟨d,d,h1,h2,hs,hs,by rw [if_pos rfl,SeqAt.eqv_refl d (SeqAt.canLay_of_shaped hs)];exact h⟩
theorem zo2:∀ (ls:List Addr) (tb:List (List Int)),ls.length=tb.length->(∀ (i:Nat) (t:Addr),ls[i]?=some t->H t=some (.lst ((tb.getD i []).map V.int)))->zs7 K H (ls.map V.ref) (tb.map dI)
 |[],[],_,_=>.nil
 |[],_::_,h,_=>by simp at h
 |_::_,[],h,_=>by simp at h
 |t::ts,p::ps,h,f=>.cons (RdV.ints (SqL.of (f 0 t rfl))) (zo2 ts ps (by simpa using h) fun i u e=>f (i+1) u e)
theorem Tab.rd {t:Addr}{ls:List Addr}{tb:List (List Int)} (T:Tab H t ls tb):RdV K H (.ref t) (dL tb):=.lst (SqL.of T.at_) (zo2 ls tb T.len T.row)
noncomputable def dT (xss:List (List Int)) (tb:List (List Int)):PyData:=.list (xss.map dI++[dL tb])
theorem zup:∀ (ds:List PyData) (d:PyData),PyData.canLayAll0 ds=true->PyData.depthAll ds<=12->PyData.canLay0 d=true->PyData.depth d<=12->PyData.canLayAll0 (ds++[d])=true/\PyData.depthAll (ds++[d])<=12
 |[],d,_,_,h1,h2=>by
  rw [List.nil_append,PyData.canLayAll0,PyData.depthAll,h1];simp [PyData.canLayAll0,PyData.depthAll]
  lia
 |e::r,d,h3,h4,h1,h2=>by
  rw [PyData.canLayAll0,Bool.and_eq_true] at h3;rw [PyData.depthAll] at h4;obtain ⟨q1,q2⟩:=zup r d h3.2 (by lia) h1 h2;rw [List.cons_append,PyData.canLayAll0,PyData.depthAll,h3.1,q1];exact ⟨rfl,by lia⟩
theorem zzz (tb:List (List Int)):PyData.depth (dL tb)<=12:=by
 obtain ⟨h1,h2⟩:=zjy tb;unfold dL;rw [PyData.depth];lia
theorem zro (xss tb:List (List Int)):SeqAt.shaped (dT xss tb)=true:=by
 obtain ⟨h1,h2⟩:=zjy xss;obtain ⟨h3,h4⟩:=zup _ (dL tb) h1 (by lia) (SeqAt.canLay_of_shaped (zm8 tb)) (zzz tb);unfold SeqAt.shaped dT;rw [PyData.canLay0,h3,PyData.depth];simp
 lia
theorem zsi:∀ ps:List (Int×Int),PyData.canLayAll0 (ps.map dP)=true/\PyData.depthAll (ps.map dP)<=12
 |[]=>by simp [PyData.canLayAll0,PyData.depthAll]
 |a::r=>by
  obtain ⟨h1,h2⟩:=zsi r;have h3:=zny a;have h4:PyData.depth (dP a)<=12:=by simp [dP,PyData.depth,PyData.depthAll]
  have h5:=SeqAt.canLay_of_shaped h3;rw [List.map_cons];refine ⟨?_,?_⟩
  ·rw [PyData.canLayAll0,h5,h1];rfl
  ·rw [PyData.depthAll];lia
theorem zv7 (ps:List (Int×Int)):SeqAt.shaped (.list (ps.map dP))=true:=by
 obtain ⟨h1,h2⟩:=zsi ps;unfold SeqAt.shaped;rw [PyData.canLay0,h1,PyData.depth];simp
 lia
theorem z3d {p p':Addr}{ts ts':List Addr}{ps:List (Int×Int)} (T:Prs H p ts ps) (T':Prs H p' ts' ps) (h:Q (.bl false) H):rNe (.ref p) (.ref p') H Q\/zt0 K true (.ref p) (.ref p') H Q:=z32 T.rd T'.rd (zv7 ps) h
theorem z65 {a b p q t p' q' t':Addr}{ls ls':List Addr}{xs ys:List Int}{tb:List (List Int)} (h:H a=some (.lst [.ref p,.ref q,.ref t])) (h1:H p=some (.lst (xs.map V.int))) (h2:H q=some (.lst (ys.map V.int))) (h3:Tab H t ls tb)
  (h':H b=some (.lst [.ref p',.ref q',.ref t'])) (h1':H p'=some (.lst (xs.map V.int))) (h2':H q'=some (.lst (ys.map V.int))) (h3':Tab H t' ls' tb) (hq:Q (.bl false) H):rNe (.ref a) (.ref b) H Q\/zt0 K true (.ref a) (.ref b) H Q :=
 z32 (d:=dT [xs,ys] tb) (.lst (SqL.of h) (.cons (RdV.ints (SqL.of h1)) (.cons (RdV.ints (SqL.of h2)) (.cons h3.rd .nil)))) (.lst (SqL.of h') (.cons (RdV.ints (SqL.of h1')) (.cons (RdV.ints (SqL.of h2')) (.cons h3'.rd .nil)))) (zro _ _) hq
theorem z6y {a b r p q t r' p' q' t':Addr}{ls ls':List Addr}{rs xs ys:List Int}{tb:List (List Int)} (h:H a=some (.lst [.ref r,.ref p,.ref q,.ref t])) (h0:H r=some (.lst (rs.map V.int))) (h1:H p=some (.lst (xs.map V.int))) (h2:H q=some (.lst (ys.map V.int))) (h3:Tab H t ls tb)
  (h':H b=some (.lst [.ref r',.ref p',.ref q',.ref t'])) (h0':H r'=some (.lst (rs.map V.int))) (h1':H p'=some (.lst (xs.map V.int))) (h2':H q'=some (.lst (ys.map V.int))) (h3':Tab H t' ls' tb) (hq:Q (.bl false) H):rNe (.ref a) (.ref b) H Q\/zt0 K true (.ref a) (.ref b) H Q :=
 z32 (d:=dT [rs,xs,ys] tb) (.lst (SqL.of h) (.cons (RdV.ints (SqL.of h0)) (.cons (RdV.ints (SqL.of h1)) (.cons (RdV.ints (SqL.of h2)) (.cons h3.rd .nil))))) (.lst (SqL.of h') (.cons (RdV.ints (SqL.of h0')) (.cons (RdV.ints (SqL.of h1')) (.cons (RdV.ints (SqL.of h2')) (.cons h3'.rd .nil))))) (zro _ _) hq
theorem z3q (xs:List V) {k:Int} (h:0<=k):zzq xs none (some k)=xs.take k.toNat:=by
 unfold zzq;rw [zlr _ _ h,HT.sIx_none,List.drop_zero,Nat.sub_zero,List.take_eq_take_iff];lia
theorem zx2 (xs:List V) {k:Int} (h:0<=k):zzq xs (some k) none=xs.drop k.toNat:=by
 unfold zzq;rw [zlr _ _ h,HT.sIx_none];rw [List.take_of_length_le (by rw [List.length_drop];lia)];by_cases hk:k.toNat<=xs.length
 ·rw [Nat.min_eq_left hk]
 ·rw [Nat.min_eq_right (by lia),List.drop_of_length_le (Nat.le_refl _),List.drop_of_length_le (by lia)]
theorem zt2 {a:Addr}{xs:List V}{k:Int} (hs:H a=some (.lst xs)) (hk:0<=k) (h:∀ p,H p=none->Q (.ref p) (upd H p (.lst (xs.take k.toNat)))):z1q K (.ref a) none (some k) H Q:=⟨a,_,rfl,SqL.of hs,fun p hp=>by rw [z3q _ hk];exact h p hp⟩
theorem zrr {a:Addr}{xs:List V}{k:Int} (hs:H a=some (.lst xs)) (hk:0<=k) (h:∀ p,H p=none->Q (.ref p) (upd H p (.lst (xs.drop k.toNat)))):z1q K (.ref a) (some k) none H Q:=⟨a,_,rfl,SqL.of hs,fun p hp=>by rw [zx2 _ hk];exact h p hp⟩
theorem z5g {a:Addr}{xs:List V} (hs:H a=some (.lst xs)) (h:∀ p,H p=none->Q (.ref p) (upd H p (.lst xs.reverse))):z4g K (.ref a) none none (.int (-1)) H Q :=
 ⟨-1,a,_,rfl,by decide,rfl,SqL.of hs,fun p hp=>by rw [zsh];exact h p hp⟩
noncomputable def PrA (H:Hp) (ts:List Addr) (ps:List (Int×Int)):Prop:=ts.length=ps.length/\∀ (i:Nat) (t:Addr),ts[i]?=some t->H t=some (.tup [.int (ps.getD i (0,0)).1,.int (ps.getD i (0,0)).2])
theorem Prs.a {p:Addr}{ts:List Addr}{ps:List (Int×Int)} (T:Prs H p ts ps):PrA H ts ps:=⟨T.len,T.row⟩
theorem PrA.prs {p:Addr}{ts:List Addr}{ps:List (Int×Int)} (A:PrA H ts ps) (h:H p=some (.lst (ts.map V.ref))):Prs H p ts ps:=⟨h,A.1,A.2⟩
theorem PrA.same {ts:List Addr}{ps:List (Int×Int)} (A:PrA H ts ps) (s:Same H H'):PrA H' ts ps:=⟨A.1,fun i t h=>s.at (A.2 i t h)⟩
theorem PrA.nil:PrA H [] []:=⟨rfl,fun i t h=>by simp at h⟩
theorem PrA.cons {t:Addr}{i j:Int}{ts:List Addr}{ps:List (Int×Int)} (h:H t=some (.tup [.int i,.int j])) (A:PrA H ts ps):PrA H (t::ts) ((i,j)::ps):=⟨by simp [A.1],fun n u e=>by
 cases n with
 |zero=>simp at e;subst e;exact h
 |succ n=>exact A.2 n u (by simpa using e)⟩
theorem PrA.take {ts:List Addr}{ps:List (Int×Int)} (A:PrA H ts ps) (n:Nat):PrA H (ts.take n) (ps.take n):=⟨by simp [A.1],fun i t h=>by
 rw [List.getElem?_take] at h
 split at h
 ·rename_i q
  have:=A.2 i t h
  rw [List.getD_eq_getElem?_getD] at this ⊢
  rw [List.getElem?_take,if_pos q];exact this
 ·cases h⟩
theorem PrA.drop {ts:List Addr}{ps:List (Int×Int)} (A:PrA H ts ps) (n:Nat):PrA H (ts.drop n) (ps.drop n):=⟨by simp [A.1],fun i t h=>by
 rw [List.getElem?_drop] at h
 have:=A.2 _ t h
 rw [List.getD_eq_getElem?_getD] at this ⊢
 rw [List.getElem?_drop];exact this⟩
theorem PrA.append {ts ts':List Addr}{ps ps':List (Int×Int)} (A:PrA H ts ps) (B:PrA H ts' ps'):PrA H (ts++ts') (ps++ps'):=⟨by simp [A.1,B.1],fun i t h=>by
 by_cases q:i<ts.length
 ·rw [List.getElem?_append_left q] at h
  have:=A.2 i t h
  rw [List.getD_eq_getElem?_getD] at this ⊢
  rw [List.getElem?_append_left (by rw [<- A.1];exact q)];exact this
 ·rw [List.getElem?_append_right (by lia)] at h
  have:=B.2 _ t h
  rw [List.getD_eq_getElem?_getD] at this ⊢
  rw [List.getElem?_append_right (by rw [<- A.1];lia),<- A.1];exact this⟩
theorem PrA.reverse {ts:List Addr}{ps:List (Int×Int)} (A:PrA H ts ps):PrA H ts.reverse ps.reverse:=⟨by simp [A.1],fun i t h=>by
 have hi:i<ts.length:=by
  have:=(List.getElem?_eq_some_iff.mp h).1
  simpa using this
 rw [List.getElem?_reverse hi] at h
 have:=A.2 _ t h
 rw [List.getD_eq_getElem?_getD] at this ⊢
 rw [List.getElem?_reverse (by rw [<- A.1];exact hi),<- A.1];exact this⟩
noncomputable def TbA (H:Hp) (ls:List Addr) (tb:List (List Int)):Prop:=ls.length=tb.length/\∀ (i:Nat) (l:Addr),ls[i]?=some l->H l=some (.lst ((tb.getD i []).map V.int))
theorem Tab.a {p:Addr}{ts:List Addr}{ps:List (List Int)} (T:Tab H p ts ps):TbA H ts ps:=⟨T.len,T.row⟩
theorem TbA.tab {p:Addr}{ts:List Addr}{ps:List (List Int)} (A:TbA H ts ps) (h:H p=some (.lst (ts.map V.ref))):Tab H p ts ps:=⟨h,A.1,A.2⟩
theorem TbA.same {ts:List Addr}{ps:List (List Int)} (A:TbA H ts ps) (s:Same H H'):TbA H' ts ps:=⟨A.1,fun i t h=>s.at (A.2 i t h)⟩
theorem TbA.nil:TbA H [] []:=⟨rfl,fun i t h=>by simp at h⟩
theorem TbA.cons {t:Addr}{xs:List Int}{ts:List Addr}{ps:List (List Int)} (h:H t=some (.lst (xs.map V.int))) (A:TbA H ts ps):TbA H (t::ts) (xs::ps):=⟨by simp [A.1],fun n u e=>by
 cases n with
 |zero=>simp at e;subst e;exact h
 |succ n=>exact A.2 n u (by simpa using e)⟩
theorem TbA.drop {ts:List Addr}{ps:List (List Int)} (A:TbA H ts ps) (n:Nat):TbA H (ts.drop n) (ps.drop n):=⟨by simp [A.1],fun i t h=>by
 rw [List.getElem?_drop] at h
 have:=A.2 _ t h
 rw [List.getD_eq_getElem?_getD] at this ⊢
 rw [List.getElem?_drop];exact this⟩
theorem TbA.append {ts ts':List Addr}{ps ps':List (List Int)} (A:TbA H ts ps) (B:TbA H ts' ps'):TbA H (ts++ts') (ps++ps'):=⟨by simp [A.1,B.1],fun i t h=>by
 by_cases q:i<ts.length
 ·rw [List.getElem?_append_left q] at h
  have:=A.2 i t h
  rw [List.getD_eq_getElem?_getD] at this ⊢
  rw [List.getElem?_append_left (by rw [<- A.1];exact q)];exact this
 ·rw [List.getElem?_append_right (by lia)] at h
  have:=B.2 _ t h
  rw [List.getD_eq_getElem?_getD] at this ⊢
  rw [List.getElem?_append_right (by rw [<- A.1];lia),<- A.1];exact this⟩
theorem TbA.set {ts:List Addr}{ps:List (List Int)}{n:Nat}{t:Addr}{xs:List Int} (A:TbA H ts ps) (h:H t=some (.lst (xs.map V.int))):TbA H (ts.set n t) (ps.set n xs):=⟨by simp [A.1],fun i u e=>by
 rw [List.getElem?_set] at e
 rw [List.getD_eq_getElem?_getD,List.getElem?_set]
 split at e
 ·rename_i q
  rw [if_pos q]
  split at e
  ·rename_i q2
   cases e
   rw [if_pos (by rw [<- A.1];exact q2)]
   exact h
  ·cases e
 ·rename_i q
  rw [if_neg q]
  have:=A.2 i u e
  rw [List.getD_eq_getElem?_getD] at this
  exact this⟩
theorem jl {x dx C:Addr} (hx:H x=none) (hdx:H dx=none) (s:SameBut [x] (upd (upd H dx (.own x)) x (.ins C dx [])) H'):Same H H':=fun c o hc=>s c o (zf (zu hc hdx) (zj hc hx)) (by simpa using zj hc hx)
theorem zb7 {x dx c:Addr}{o o':HO} (h:(upd (upd H dx o) x o') c=none):H c=none:=zy (zy h)
theorem qe {x dx c:Addr}{o o' o'':HO} (hx:H x=none) (hdx:H dx=none) (h:H c=some o):(upd (upd H dx o') x o'') c=some o:=zf (zu h hdx) (zj h hx)
theorem zgb {H0 H1:Hp}{ls:List Addr} (s:Same H0 H1) (b:SameBut ls H1 H') (f:∀ l∈ls,H0 l=none):Same H0 H':=fun c o h=>b c o (s c o h) fun hc=>by rw [f c hc] at h;cases h
theorem Tab.but {ls ls':List Addr}{t:Addr}{tb:List (List Int)} (T:Tab H t ls tb) (s:SameBut ls' H H') (h1:t∉ls') (h2:∀ l∈ls,l∉ls'):Tab H' t ls tb:=⟨s.at T.at_ h1,T.len,fun i l hl=>s.at (T.row i l hl) (h2 l (List.mem_of_getElem? hl))⟩
theorem z8x {i n:Nat} (hi:i<=100000) (hn:n<=100000) (h:∀ l,H l=none->Q (.ref l) (upd H l (.lst (((List.range n).map fun k:Nat=>(i:Int)+(k:Int)).map V.int)))):LR2 Q [.int (i:Int),.int ((i:Int)+(n:Int))] H:=by
 refine ⟨i,(i:Int)+n,rfl,by lia,by lia,by lia,by lia,fun l hl=>?_⟩;have:((i:Int)+(n:Int)-(i:Int)).toNat=n:=by lia
 rw [this];exact h l hl
theorem z50 {l:Addr}{xs:List V}{i:Int}{v:V}{R:Hp->Prop} (hl:H l=some (.lst xs)) (h0:0<=i) (h1:i<xs.length) (h:R (upd H l (.lst (xs.set i.toNat v)))):z2y (.ref l) (.int i) v H R:=by
 refine ⟨l,_,_,i.toNat,rfl,rfl,hl,?_,h⟩;unfold ixN;rw [if_pos h0,if_pos h1]
theorem TbA.of_new {ls ls':List Addr}{tb:List (List Int)}{g:List Int->List Int} (hl:ls.length=tb.length) (h1:ls'.length=(ls.zip tb).length) (h:∀ (i:Nat) a,ls'[i]?=some a->∃ y,(ls.zip tb)[i]?=some y/\H' a=some (.lst ((g y.2).map V.int))):TbA H' ls' (tb.map g):=by
 rw [List.length_zip,hl,Nat.min_self] at h1;refine ⟨by rw [List.length_map];exact h1,fun i a ha=>?_⟩;obtain ⟨y,hy,q⟩:=h i a ha;obtain ⟨h2,h3⟩:=List.getElem?_eq_some_iff.mp hy;rw [List.length_zip] at h2;have i2:i<tb.length:=by lia
 rw [List.getElem_zip] at h3;subst h3;rw [List.getD_eq_getElem?_getD,List.getElem?_map,List.getElem?_eq_getElem i2];exact q
theorem zja {tb:List (List Int)}{n:Nat} (h:∀ l∈tb,l.length<=n) (i:Nat) (hi:i<tb.length):(tb.getD i []).length<=n:=by
 rw [List.getD_eq_getElem?_getD,List.getElem?_eq_getElem hi];exact h _ (List.getElem_mem hi)
theorem zf7 {tb:List (List Int)}{n:Nat} (h:∀ i,i<tb.length->(tb.getD i []).length<=n):∀ l∈tb,l.length<=n:=fun l hl=>by
 obtain ⟨i,hi,e⟩:=List.getElem_of_mem hl;have:=h i hi;rw [List.getD_eq_getElem?_getD,List.getElem?_eq_getElem hi] at this;rw [<- e];exact this
end
end L2
namespace Lf
theorem z93:short [1,1,2] [1,1,2] [0]=false:=by decide
theorem qaj:short [1,1] [1,2] [1]=false:=by decide
theorem qas:stands [1] [0,0] [1,1]=false:=by decide
theorem qai:missed [0] 1 [] [1]=false:=by rw [zhl];decide
theorem qap:missed [0,1,0] 2 [2] [0,0]=false:=by rw [zhl];decide
theorem qal:zc0 [1,2] [1] [2] [(0,0)]=false:=za3 fun h=>by
 have:=(h.all (0,0) (by decide)).nx (by decide) (by decide);revert this;decide
theorem z94:zc0 [3,2] [1] [2] []=false:=za3 fun h=>by
 have:=h.first;revert this;decide
theorem z99:mixed [1,3] [1] [2] [0]=false:=by decide
theorem qaa:long [1] [1] [] [] [[0,0],[0,0]]=false:=by
 refine Bool.eq_false_iff.mpr fun z=>?_;have:=((zv1 z).2.1.all 1 1 (by decide) (by decide)).dg (by decide) (by decide) (by decide);revert this;decide
theorem z8a:zc0 [3,2] [1] [2] [(0,0),(-1,0)]=false:=za3 fun h=>by
 have:=(h.all (-1,0) (by decide)).i0;revert this;decide
theorem le1 {i:Nat} (h:i<=1):i=0\/i=1:=by lia
theorem le2 {i:Nat} (h:i<=2):i=0\/i=1\/i=2:=by lia
theorem z1h:TabOk [1,2] [1] [[0,0],[1,1],[1,1]] where
 len:=rfl
 first:=by decide
 lens i hi:=by rcases le2 hi with rfl|rfl|rfl<;>rfl
 all i j hi hj:=by
  rcases le2 hi with rfl|rfl|rfl<;>rcases le1 hj with rfl|rfl<;>exact ⟨by decide,by decide,by decide⟩
theorem zzy:TabOk [] [] [[0]] where
 len:=rfl
 first:=by decide
 lens i hi:=by
  have:i=0:=Nat.le_zero.mp hi;subst this;rfl
 all i j hi hj:=by
  have:i=0:=Nat.le_zero.mp hi;have:j=0:=Nat.le_zero.mp hj;subst i;subst j;exact ⟨by decide,by decide,by decide⟩
theorem zx9:long [1,2] [1] [0] [0] [[0,0],[1,1],[1,1]]=true:=by
 unfold long;rw [zj9 z1h];decide
theorem good2:short [1,1] [1,2] [0]=true:=by decide
theorem good3:missed [0,1,0] 2 [2] [1,1]=true:=by rw [zhl];decide
theorem z7t:short [] [5] []=true:=by decide
theorem z7m:zc0 [3,2] [1] [2] [(0,0)]=true:=zg5 ⟨rfl,by decide,by decide,fun p hp=>by
 have:p=(0,0):=by simpa using hp
 subst this
 exact ⟨by decide,by decide,by decide,by decide,by decide,by decide⟩⟩
theorem z7p:long [] [] [] [] [[0]]=true:=by
 unfold long;rw [zj9 zzy];decide
end Lf
namespace L2
open PySem PySem.Spec PyProof.Rows
section
variable {X:Cx}{x:Str}{e e' e'' a b o:Expr}{es:List Expr}{te te' te'' ta tb:TE}{t:TA}{pos pos' p:Pos}{k j:Nat}{f C:Addr}{fd:FuncData}{ps:List Str}{sp:Sp}
theorem gv (i:Nat) (hN:X.N.Nodup) (hi:X.N[i]?=some x:=by rfl) (hx:Loc X.env.scope x:=by first|exact Or.inl rfl|exact Or.inr rfl) (hf:X.fn x=true\/X.env.scope.names.lookup x=some .local:=by first|exact .inl rfl|exact .inr rfl|assumption):PG X (.Name x pos) (ztt i):=zx7 hN hi hx hf
theorem sv (i:Nat) (hN:X.N.Nodup) (he:PE X e te) (hi:X.N[i]?=some x:=by rfl) (hx:Loc X.env.scope x:=by first|exact Or.inl rfl|exact Or.inr rfl) (hs:swapsWith e (some (.Name x pos')) pos.line X.env=pure false:=by rfl)
  (hf:X.fn x=true\/X.env.scope.names.lookup x=some .local:=by first|exact .inl rfl|exact .inr rfl|assumption):PS X (.Assign [.Name x pos'] e pos) (z6q te (ztt i)):=z4i hN hi hx he hs hf
theorem a1 (h:PE X e te) (hs:starEach [e] X.env=[(false,eval e X.env)]:=by rfl):PA X [e] (zn8 te z08):=zm h qu hs
theorem a2 (h:PE X e te) (h':PE X e' te') (hs:starEach [e,e'] X.env=(false,eval e X.env)::starEach [e'] X.env:=by rfl) (hs':starEach [e'] X.env=[(false,eval e' X.env)]:=by rfl):PA X [e,e'] (zn8 te (zn8 te' z08)):=zm h (zm h' qu hs') hs
theorem a3 (h:PE X e te) (h':PE X e' te') (h'':PE X e'' te'') (hs:starEach [e,e',e''] X.env=(false,eval e X.env)::starEach [e',e''] X.env:=by rfl) (hs':starEach [e',e''] X.env=(false,eval e' X.env)::starEach [e''] X.env:=by rfl) (hs'':starEach [e''] X.env=[(false,eval e'' X.env)]:=by rfl):PA X [e,e',e''] (zn8 te (zn8 te' (zn8 te'' z08))):=zm h (a2 h' h'' hs' hs'') hs
theorem px (ha:PE X a ta) (hb:PE X b tb) (hs:zw9 b:=by exact fun _ _=>rfl):PE X (.Subscript a b pos) (tOp (zuy X.K) ta tb):=z7o qaf ha hb hs
theorem tc {op:CmpOp}{r:R2} (ho:OpR X (compareOp op) r) (ha:PE X a ta) (hb:PE X b tb) (h:op≠.In:=by decide) (h2:op≠.NotIn:=by decide):PT X (.Compare a [op] [b] pos) (zve (tOp r ta tb)):=zm9 ho ha hb (z1n b h h2)
theorem ec {op:CmpOp}{r:R2} (ho:OpR X (compareOp op) r) (ha:PE X a ta) (hb:PE X b tb) (h:op≠.In:=by decide) (h2:op≠.NotIn:=by decide):PE X (.Compare a [op] [b] pos) (tOp r ta tb):=z3i ho ha hb (z1n b h h2)
theorem fcl (F:qm X.prog X.w X.K X.mg X.base CX0 j f fd ps sp) (hr:zl9 k X.A) (c:Cal X.K X.mg x f fd ps) (ha:PA X (e::es) t) (hj:j<=k:=by decide) (hg:Gl X x:=by rfl) (hdb:(x==("__debug__":Str))=false:=by decide)
  (he:starEach (e::es) X.env=(false,eval e X.env)::starEach es X.env:=by rfl) (hpl:(backTo pos (starEach es X.env)).any (·.1)=false:=by rfl):PE X (.Call (.Name x p) (e::es) [] pos) (z02 sp [] E0 t):=z27 F (hr.mono hj) hg c.mg c.kp c.b .nil zb9 ha hdb he hpl
theorem fmk (m:Mak X.K X.mg x C f fd ps) (F:qm X.prog X.w X.K X.mg X.base CX0 j f fd ps sp) (hr:zl9 k X.A) (ha:PA X (e::es) t) (hj:j+1<=k:=by decide) (hg:Gl X x:=by rfl) (hdb:(x==("__debug__":Str))=false:=by decide)
  (he:starEach (e::es) X.env=(false,eval e X.env)::starEach es X.env:=by rfl) (hpl:(backTo pos (starEach es X.env)).any (·.1)=false:=by rfl):PE X (.Call (.Name x p) (e::es) [] pos) (z3y C sp [] E0 t):=z4d m.mkk F (hr.mono hj) hg m.mg m.b .nil zb9 ha hdb he hpl
theorem ln (T:Blt X.mg) (h:PE X e te) (hg:Gl X "len":=by rfl) (hs:starEach [e] X.env=[(false,eval e X.env)]:=by rfl):PE X (.Call (.Name "len" p) [e] [] pos) (tCB (zsd X.K) (zn8 te z08)):=jk z7l hg T.no_len boot_len (a1 h hs) (he:=hs)
theorem lo (T:Blt X.mg) (h:PE X e te) (hg:Gl X "list":=by rfl) (hs:starEach [e] X.env=[(false,eval e X.env)]:=by rfl):PE X (.Call (.Name "list" p) [e] [] pos) (tCB (z7b X.K) (zn8 te z08)):=ze9 zt1 hg T.no_list boot_list (a1 h hs) (he:=hs)
theorem pif {c:Expr}{tt:TT}{v:Bool}{j}{q q':Pos} (hc:PT X c tt):PS X (.If c [.Return (some (.Constant (.bool v) j q)) q'] [] pos) (z7c tt (z7d (tC (.bl v))) z2n):=zc2 hc (zp (qx zf5)) vm
theorem pap {apos cpos:Pos}{to:TE} (ho:PE X o to) (h:PE X e te) (hbase:attributeBase o "append" X.env (eval o X.env)=eval o X.env:=by rfl)
  (hfew:((backTo cpos (starEach [e] X.env)).all (fun x=>!x.1)&&(backToKw cpos (keywordEach [] X.env)).all (fun x=>x.1.isSome)&&decide ([e].length+([]:List Keyword).length+(if ([]:List Keyword).isEmpty then 0 else 1)<30))=true:=by rfl)
  (hline:(apos.endLine==cpos.line)=true:=by rfl) (hs:starEach [e] X.env=[(false,eval e X.env)]:=by rfl) (hw:swapsWith (.Call (.Attribute o "append" apos) [e] [] cpos) none pos.line X.env=pure false:=by rfl):PS X (.Expr (.Call (.Attribute o "append" apos) [e] [] cpos) pos) (z23 (tBM X.K "list" zln to (zn8 te z08))) :=
 zgz (z8f PySem.F.plainAttrs_list PySem.F.slot_list_append PySem.F.type_list_append zw6 ho (a1 h hs) hbase hfew hline hs) hw
theorem pcm {N:List Str}{scope:Scope}{caps:List Nat}{elt iter:Expr}{wi:TI}{q:Pos} (hwi:PI X (.Name x q) iter wi) (he:∀ pins fp s H,∃ t,PE (vg X N scope pins fp s H) elt t/\t=te) (B:Block X N scope 1 caps:=by exact Block.of (by kernel_rfl)) (hc:X.calm=true:=by rfl) (hN:N.Nodup:=by decide) (hi:N[0]?=some x:=by rfl)
  (hx:∀ pins fp s H,Loc (vg X N scope pins fp s H).env.scope x:=by intro _ _ _ _;first|exact Or.inl rfl|exact Or.inr rfl) (hf:∀ pins fp s H,(vg X N scope pins fp s H).fn x=true\/(vg X N scope pins fp s H).env.scope.names.lookup x=some .local:=by intro _ _ _ _;first|exact .inl rfl|exact .inr rfl)
  (hs:∀ x,foldedSetIterable iter X.env x=pure x:=by intro _;rfl):PE X (.ListComp elt [⟨.Name x q,iter,[],0⟩] scope pos) (z0q wi (ztt 0) (fun _ H Q=>Q true H) te 1 caps) :=
 zlb B hc hwi (fun pins fp s H=>⟨_,zx7 (X:=vg X N scope pins fp s H) hN hi (hx pins fp s H) (hf pins fp s H),rfl⟩) (fun _ _ _ _=>⟨_,.none,rfl⟩) he hs
end
section
variable {σ τ:St}{H:Hp}{D:Ends}
theorem qah {i:Nat}{v:V}{R:St->Hp->Prop} (e:σ.set i (some v)=τ) (h:R τ H):ztt i v σ H R:=by
 subst e;exact h
theorem z9n {n b c:St->Hp->Prop}{r:VK} (h:n σ H):Ends.nx { nx:=n,rt:=r,bk:=b,ct:=c } σ H:=h
theorem z5s {i:Nat}{te:TE}{ti:TIp}{v:V}{ρ:V->St} (e:σ[i]?=some (some v)) (q:∀ z,σ.set i (some z)=ρ z) (h:te σ H fun y H1=>ti v y H1 fun z H2=>D.nx (ρ z) H2):z79 i te ti D σ H:=by
 refine ⟨v,e,?_⟩;simp only [q];exact h
theorem z20 {i j:Nat}{x y:V} (e:(σ.set i (some x)).set j (some y)=τ) (h:D.nx τ H):z9o i j σ D [x,y] H:=by
 subst e;exact ⟨x,y,rfl,h⟩
end
theorem usS {us:List Value}{n:Nat} (h:us.length=n+1):∃ a r,us=a::r/\r.length=n:=by
 match us,h with
 |a::r,h=>exact ⟨a,r,rfl,Nat.succ.inj h⟩
theorem us0 {us:List Value} (h:us.length=0):us=[]:=List.length_eq_zero_iff.mp h
theorem us1 {us:List Value} (h:us.length=1):∃ a,us=[a]:=by
 obtain ⟨a,r,rfl,h'⟩:=usS h;exact ⟨a,by rw [us0 h']⟩
theorem us2 {us:List Value} (h:us.length=2):∃ a b,us=[a,b]:=by
 obtain ⟨a,r,rfl,h'⟩:=usS h;obtain ⟨b,rfl⟩:=us1 h';exact ⟨a,b,rfl⟩
theorem us3 {us:List Value} (h:us.length=3):∃ a b c,us=[a,b,c]:=by
 obtain ⟨a,r,rfl,h'⟩:=usS h;obtain ⟨b,c,rfl⟩:=us2 h';exact ⟨a,b,c,rfl⟩
theorem us4 {us:List Value} (h:us.length=4):∃ a b c d,us=[a,b,c,d]:=by
 obtain ⟨a,r,rfl,h'⟩:=usS h;obtain ⟨b,c,d,rfl⟩:=us3 h';exact ⟨a,b,c,d,rfl⟩
theorem us5 {us:List Value} (h:us.length=5):∃ a b c d e,us=[a,b,c,d,e]:=by
 obtain ⟨a,r,rfl,h'⟩:=usS h;obtain ⟨b,c,d,e,rfl⟩:=us4 h';exact ⟨a,b,c,d,e,rfl⟩
end L2
namespace My
open PySem PySem.Spec PyProof.Rows L2
noncomputable abbrev body:=PySem.Challenge.pw_leftin_k07_answers_by_hand.main.body
seal PE PT PW PA PS PSs PC PG PGs z8z PIp z92 PI OpR UnR zca qao PK PO SlR IxR MtR PPs
local macro_rules|`(tactic| walk_at "st")=>`(tactic| first|(dsimp only [inner,List.replicate,List.map,List.cons_append,List.nil_append,List.getElem?_cons_zero,List.getElem?_cons_succ,Option.join_some,List.set]<;>exact rfl)|exact rfl)
local macro_rules|`(tactic| walk_at "n")=>`(tactic| first|lia|omega)
local macro_rules|`(tactic| walk_at "s")=>`(tactic| first|with_reducible exact Same.refl _|with_reducible assumption|((with_reducible refine zch ?_ ?_);walk_at "s";walk_at "h")|((with_reducible apply zvr);(focus with_reducible assumption);walk_at "s"))
local macro_rules|`(tactic| walk_at "c")=>`(tactic| first|rfl|(dsimp only [vg];done)|(dsimp only [vg];rfl))
local macro_rules|`(tactic| walk_at "i")=>`(tactic| first|(show (0:Int)<_;lia)|exact ⟨by lia,by lia⟩|(show (0:Int)<_;omega)|exact ⟨by omega,by omega⟩|exact mul2Ok|exact ⟨by decide,by decide,by decide⟩)
local macro_rules|`(tactic| walk_at "g")=>`(tactic| first|with_reducible assumption|((with_reducible apply zy);first|with_reducible assumption|((with_reducible apply zy);first|with_reducible assumption|((with_reducible apply zy);first|with_reducible assumption|((with_reducible apply zy);first|with_reducible assumption|((with_reducible apply zy);first|with_reducible assumption|((with_reducible apply zy);first|with_reducible assumption|((with_reducible apply zy);first|with_reducible assumption|((with_reducible apply zy);first|with_reducible assumption|((with_reducible apply zy);first|with_reducible assumption|((with_reducible apply zy);first|with_reducible assumption|((with_reducible apply zy);first|with_reducible assumption|((with_reducible apply zy);first|with_reducible assumption|((with_reducible apply zy);with_reducible assumption))))))))))))))
local macro_rules|`(tactic| walk_at "h")=>`(tactic| first|walk_at "g"|((with_reducible apply z26);(focus with_reducible assumption);walk_at "s")|((with_reducible apply Same.free);(focus with_reducible assumption);walk_at "g"))
local macro_rules|`(tactic| walk_at "f")=>`(tactic| first
 |with_reducible assumption
 |with_reducible exact zb
 |((with_reducible apply SqL.of);first|with_reducible assumption|with_reducible exact zb)
 |((with_reducible apply z3x);(focus with_reducible assumption);(focus with_reducible assumption);walk_at "f")
 |((with_reducible apply mk_sq);(focus with_reducible assumption);(focus with_reducible assumption);walk_at "f")
 |((with_reducible apply zxi);(focus with_reducible assumption);walk_at "f")
 |((with_reducible apply z05);(focus with_reducible assumption);walk_at "f")
 |((with_reducible apply Same.at);(focus with_reducible assumption);walk_at "f")
 |((with_reducible apply Same.seq);(focus with_reducible assumption);walk_at "f")
 |((with_reducible apply ztx);(focus walk_at "e");walk_at "f")
 |((with_reducible apply zvc);(focus walk_at "e");walk_at "f")
 |assumption
 |exact zb)
local macro_rules|`(tactic| walk_at "e")=>`(tactic| first|with_reducible assumption|((with_reducible apply Ne.symm);with_reducible assumption)|((with_reducible apply zuk);with_reducible assumption)|((with_reducible apply Ne.symm);(with_reducible apply zuk);with_reducible assumption)|((with_reducible apply zj);rotate_left;(focus walk_at "h");walk_at "f")|((with_reducible apply Ne.symm);(with_reducible apply zj);rotate_left;(focus walk_at "h");walk_at "f"))
local macro_rules|`(tactic| walk_at "q")=>`(tactic| first
 |(with_reducible first|refine z5d ?_|refine z69 ?_|refine z83 ?_|refine z76 ?_|refine z86 ?_|refine z8r ?_|refine z8s ?_)|((with_reducible refine qah (by walk_at "st") ?_);try with_reducible refine z9n ?_)|(with_reducible first|refine z8b ?_|refine z8l ?_|refine z61 ?_|refine z6p ?_|refine z2u ?_)|((with_reducible show zwq _ _ _ _);refine z5k rfl ?_)|(with_reducible first|refine r_c ?_|refine z95 ?_|refine qaq ?_|refine z96 ?_|refine z6u ?_|refine z82 ?_|refine z4v ?_|refine qac ?_|refine qat ?_|refine z71 ?_|refine z7y ?_|refine qad ?_|refine z5a ?_|refine z51 ?_|refine z57 ?_|refine z24 ?_|refine z80 ?_|refine z74 ?_|refine qae ?_|refine z72 ?_|refine z6l ?_|refine z1d ?_|refine z8c ?_|refine z5j ?_|refine z8t ?_|refine z3v ?_|refine z5r ?_|refine z3c ?_|refine z2o ?_|refine z81 ?_|refine z49 ?_|refine z6g ?_|refine z4s ?_|refine z6h ?_|refine z4r ?_)|((with_reducible refine zsg ?_ ?_);(· first|decide|(simp;done)|(simp;omega)))|((with_reducible refine z48 ?_ ?_);(· first|decide|(simp;done)|(simp;omega)))|((with_reducible apply z0n);walk_at "f")|((with_reducible apply z8i);walk_at "f";walk_at "f")|((with_reducible apply z60);walk_at "f")|((with_reducible refine z9p ?_ ?_);(· walk_at "i"))|(with_reducible first|refine z8e ?_|refine qau ?_|refine z6w ?_|refine z7s ?_|refine z8v ?_|refine z7e ?_)|((with_reducible apply z41);walk_at "f")|((with_reducible apply z6x);walk_at "f")|((with_reducible apply z70);walk_at "f";walk_at "f")|((with_reducible apply z75);walk_at "f";walk_at "f")|((with_reducible apply z7r);walk_at "f")|((with_reducible apply zzu);walk_at "f")|((with_reducible apply z07);walk_at "f")|((with_reducible apply z5c);walk_at "f";(focus walk_at "n"))|((with_reducible apply zz4);walk_at "f";(focus walk_at "n"))|((with_reducible apply z4a);walk_at "f";(focus walk_at "n");(focus walk_at "n"))|((with_reducible apply z5v);walk_at "f")|((with_reducible apply z77);walk_at "f")|((with_reducible apply z97);walk_at "f")|((with_reducible apply qag);walk_at "f")|((with_reducible apply z78);walk_at "f")|(with_reducible first|refine z6k ?_|refine z2v ?_|refine z8y ?_)|((with_reducible refine z20 (by walk_at "st") ?_);try with_reducible refine z9n ?_)|((with_reducible apply z09);(focus walk_at "f"))|(with_reducible first|refine zzr ?_|refine z0u ?_|refine z0e ?_)|((with_reducible apply z0y);walk_at "f")|((with_reducible apply z8m);walk_at "f")|((with_reducible apply z2z);(focus walk_at "f");(focus rfl))|((with_reducible refine z7n ?_);(with_reducible refine z1k ?_);((with_reducible show zwq _ _ _ _);refine z5k rfl ?_);((with_reducible apply z1y);(focus walk_at "f");(focus first|with_reducible assumption|rfl)))|(with_reducible first|refine z7q ?_|refine z6m ?_|refine z7f ?_|refine z0d ?_|refine z2l ?_|refine z42 ?_|refine z7v ?_|refine z7z ?_|refine z8n ?_)|((with_reducible apply z7j);(focus walk_at "f");(focus assumption);(focus assumption);(focus first|with_reducible assumption|rfl))|with_reducible refine z6n ?_|((with_reducible apply z63);(focus walk_at "f");(focus assumption);(focus assumption);(focus first|(show _<1000;decide)|exact (show 1<1000 by decide)|exact (show 2<1000 by decide)|exact (show 3<1000 by decide)))|with_reducible refine z1k ?_|((with_reducible apply z1y);(focus walk_at "f");(focus first|with_reducible assumption|rfl))|with_reducible refine z4w ?_|((with_reducible apply zx0);(focus walk_at "f");(focus assumption);(focus assumption))|((with_reducible show z79 _ _ _ _ _ _);refine z5s rfl (by intro z;walk_at "st") ?_)|(with_reducible first|refine z8d ?_|refine z28 ?_|refine z5w ?_|refine z3h ?_|refine z6t ?_)|((with_reducible apply z4o);walk_at "f";rfl))
local macro_rules|`(tactic| walk_at "r")=>`(tactic| repeat walk_at "q")
local macro_rules|`(tactic| walk_at "o")=>`(tactic| repeat ((fail_if_success (with_reducible show z3t _ _ _ _ _ _ _ _ _ _));walk_at "q"))
local macro_rules|`(tactic| walk_at "p")=>`(tactic| (walk_at "r";repeat ((intro p (hp:_=none));walk_at "r")))
local macro_rules|`(tactic| walk_at "a")=>`(tactic| exact ⟨rfl,rfl,rfl,by decide,rfl,by decide,by decide⟩)
noncomputable abbrev bd (i:Nat):Stmt:=body.getD i (.Pass ⟨0,0,0,0⟩)
noncomputable abbrev bc (i j:Nat):Stmt:=inClass (bd i) j
variable {P:Program}{w:World}{K:PySem.W.Frag}{mg:Str->Option Value}{base:Heap}{f f2 f3 f1 f4 zax vd f5 z6 C x dx r m q t jm jc yg qw f6 f7 f8 f9 f0 zxk zud zp3 zp6 zu2 zpg zyk zu0 zpl zo3 zux zo0:Addr}{fd fd2 fd3 fd1 fd4 fd5 fd6 fd7 fd8 fd9 fd0 zwy zu4 zp0 zp7 zum zp2 zzl zuh zpi zpy zu9 zpo:FuncData}{H H':Hp}{fs:List (Str×V)}{ls:List Addr}{row mine theirs:List Int}{tb:List (List Int)}
noncomputable abbrev zlk:=bd 6
noncomputable abbrev zpm:List Str:=["value"]
noncomputable abbrev za6:List Str:=["value"]
theorem znj:z7 zpm za6 (zq zlk):=by walk_at "a"
noncomputable def zf4:Sp:=fun vs H Q _=>∃ z:Int,vs=[.int z]/\Q (.bl true) H
theorem ztv (F:Fun K "is_whole" "is_whole" zlk f fd) (T:Blt mg):qm P w K mg base CX0 1 f fd za6 zf4:=by
 refine F.ok znj (fun vs H Q E h=>by obtain ⟨_,rfl,_⟩:=h;rfl) fun cdv A outer s H vs Q E hr h=>?_;obtain ⟨z,rfl,k⟩:=h;have nd:=znj.nd;have hu:=hr.units;refine ⟨_,(zp (qx (zcv (jk zbl rfl T.no_isinstance boot_isinstance (a2 (pv 0) (zsx rfl T.no_int boot_int))) (zd3 (zu5 (jk zbl rfl T.no_isinstance boot_isinstance (a2 (pv 0) (zsx rfl T.no_bool boot_bool)))))))),?_⟩;try simp only [ck1,ck2]
 rw [show L2.start zpm [V.int z]=[some (V.int z)] from rfl];walk_at "r";exact k
noncomputable abbrev zlm:=bd 7
noncomputable abbrev zo5:List Str:=["value","most"]
noncomputable abbrev uh:List Str:=["value","most"]
theorem zm4:z7 zo5 uh (zq zlm):=by walk_at "a"
noncomputable def zd4:Sp:=fun vs H Q _=>∃ z m:Int,vs=[.int z,.int m]/\Q (.bl (decide (0<=z/\z<=m))) H
theorem ztk (F:Fun K "is_count" "is_count" zlm f fd) (T:Blt mg) (ze5:Cal K mg "is_whole" f2 fd2 za6) (zfa:qm P w K mg base CX0 1 f2 fd2 za6 zf4):qm P w K mg base CX0 2 f fd uh zd4:=by
 refine F.ok zm4 (fun vs H Q E h=>by obtain ⟨_,_,rfl,_⟩:=h;rfl) fun cdv A outer s H vs Q E hr h=>?_;obtain ⟨z,m,rfl,k⟩:=h;have nd:=zm4.nd;have hu:=hr.units;refine ⟨_,(zp (qx (zcv (fcl zfa hr ze5 (a1 (pv 0))) (zd3 (zri zmh zmh zc (pv 0) (pv 1)))))),?_⟩;try simp only [ck1,ck2]
 rw [show L2.start zo5 [V.int z,V.int m]=[some (V.int z),some (V.int m)] from rfl];walk_at "r";refine ⟨z,rfl,?_⟩;walk_at "r";refine zaq (fun h1=>?_) (fun h1=>?_)
 ·walk_at "r";have e:decide (0<=z/\z<=m)=decide (z<=m):=by
   by_cases h2:z<=m
   ·rw [decide_eq_true h2,decide_eq_true ⟨h1,h2⟩]
   ·rw [decide_eq_false h2,decide_eq_false fun q=>h2 q.2]
  rw [e] at k;exact k
 ·walk_at "r";rw [decide_eq_false fun q=>h1 q.1] at k;exact k
noncomputable abbrev zqe:=bd 8
noncomputable abbrev zui:List Str:=["value"]
noncomputable abbrev zb6:List Str:=["value"]
theorem zry:z7 zui zb6 (zq zqe):=by walk_at "a"
noncomputable def zg6:Sp:=fun vs H Q _=>∃ (a:Addr) (ns:List Int),vs=[.ref a]/\H a=some (.lst (ns.map V.int))/\ns.length<=1000000/\∀ H',Same H H'->Q (.bl true) H'
theorem zyb (F:Fun K "is_row" "is_row" zqe f fd) (T:Blt mg) (ze5:Cal K mg "is_whole" f2 fd2 za6) (zfa:qm P w K mg base CX0 1 f2 fd2 za6 zf4):qm P w K mg base CX0 2 f fd zb6 zg6:=by
 refine F.ok zry (fun vs H Q E h=>by obtain ⟨_,_,rfl,_⟩:=h;rfl) fun cdv A outer s H vs Q E hr h=>?_;obtain ⟨a,ns,rfl,ha,hn,k⟩:=h;have nd:=zry.nd;have hu:=hr.units;refine ⟨_,(zp (qx (zcv (jk zbl rfl T.no_isinstance boot_isinstance (a2 (pv 0) (zsx rfl T.no_list boot_list))) (zd3 (jk (zbx rfl) rfl T.no_all boot_all (a1 (pcm (N:=["sign"]) (caps:=[]) (qb (pv 0)) (fun _ _ _ _=>⟨_,(fcl zfa hr ze5 (a1 (pv 0))),by walk_at "c"⟩)))))))),?_⟩;try simp only [ck1,ck2]
 rw [show L2.start zui [V.ref a]=[some (V.ref a)] from rfl];walk_at "r";refine comp_map (wz (ns:=ns)) (fun _=>.bl true) (fun H' s'=>s'.seq (SqL.of ha)) hn ?_ ?_
 ·rintro i z x H3 H4 R R' hi s3 ⟨rfl,rfl⟩ h1;walk_at "r";refine ⟨⟨rfl,rfl⟩,?_⟩;walk_at "r";exact ⟨z,rfl,h1 _ (Same.refl _)⟩
 ·intro D H' hD s' hd;walk_at "r";refine ⟨D,ns.map (fun _=>true),rfl,SqL.of ?_,?_⟩
  ·rw [hd];rw [List.map_map];rfl
  ·rw [all_true];exact k _ s'
noncomputable abbrev zf2:=bd 9
noncomputable abbrev zj3:List Str:=["value"]
noncomputable abbrev jq:List Str:=["value"]
theorem zi0:z7 zj3 jq (zq zf2):=by walk_at "a"
noncomputable def zan:Sp:=fun vs H Q _=>∃ (a:Addr) (ns:List Int),vs=[.ref a]/\H a=some (.lst (ns.map V.int))/\ns.length<=1000000/\∀ p H',H p=none->Same H H'->H' p=some (.lst (ns.map V.int))->Q (.ref p) H'
theorem zok (F:Fun K "checked_row" "checked_row" zf2 f fd) (T:Blt mg) (zfn:Cal K mg "is_row" f2 fd2 zb6) (zf3:qm P w K mg base CX0 2 f2 fd2 zb6 zg6):qm P w K mg base CX0 3 f fd jq zan:=by
 refine F.ok zi0 (fun vs H Q E h=>by obtain ⟨_,_,rfl,_⟩:=h;rfl) fun cdv A outer s H vs Q E hr h=>?_;obtain ⟨a,ns,rfl,ha,hn,k⟩:=h;have nd:=zi0.nd;have hu:=hr.units;refine ⟨_,(za (zc2 (yj (j5 (fcl zf3 hr zfn (a1 (pv 0))))) (zp zqn) vm)
  (zp (qx (lo T (pv 0))))),?_⟩
 try simp only [ck1,ck2]
 rw [show L2.start zj3 [V.ref a]=[some (V.ref a)] from rfl];walk_at "r";refine ⟨a,ns,rfl,ha,hn,fun H1 s1=>?_⟩;walk_at "r";intro p hp;walk_at "r";exact k p _ (by walk_at "h") (by walk_at "s") (by walk_at "f")
noncomputable abbrev zg0:=bd 10
noncomputable abbrev zl4:List Str:=["places","count","ahead","place"]
noncomputable abbrev kj:List Str:=["places","count"]
theorem zkb:z7 zl4 kj (zq zg0):=by walk_at "a"
noncomputable def zdk:Sp:=fun vs H Q _=>∃ (a:Addr) (ns:List Int) (count:Int),vs=[.ref a,.int count]/\H a=some (.lst (ns.map V.int))/\ns.length<=1000000/\∀ H',Same H H'->Q (.bl (Lf.rising (-1) count ns)) H'
theorem zqr (F:Fun K "are_places" "are_places" zg0 f fd) (T:Blt mg) (zfn:Cal K mg "is_row" f2 fd2 zb6) (zf3:qm P w K mg base CX0 2 f2 fd2 zb6 zg6):qm P w K mg base CX0 3 f fd kj zdk:=by
 refine F.ok zkb (fun vs H Q E h=>by obtain ⟨_,_,_,rfl,_⟩:=h;rfl) fun cdv A outer s H vs Q E hr h=>?_;obtain ⟨a,ns,count,rfl,ha,hn,k⟩:=h;have nd:=zkb.nd;have hu:=hr.units;refine ⟨_,(za (pif (yj (j5 (fcl zf3 hr zfn (a1 (pv 0))))))
  (za (sv 2 nd (zdh zao zc))
  (za (vq PassesOwn.never rfl (qb (pv 0)) (gv 3 nd) (za (pif (PW.pt (zc6 (tc zmh (pv 3) (pv 2)) (zbd (tc z3z (pv 3) (pv 1))))))
  (zp (sv 2 nd (pv 3)))))
  (zp (qx zf5))))),?_⟩
 try simp only [ck1,ck2]
 rw [show L2.start zl4 [V.ref a,V.int count]=[some (V.ref a),some (V.int count),none,none] from rfl];walk_at "r";refine ⟨a,ns,rfl,ha,hn,fun H1 s1=>?_⟩;walk_at "r";refine vf (wz (ns:=ns)) (fun i σ H2=>∃ (ahead:Int) (v3:Option V),σ=[some (V.ref a),some (V.int count),some (V.int ahead),v3]/\Same H H2/\Lf.rising (-1) count ns=Lf.rising ahead count (ns.drop i)) ?_ ?_ ?_ ?_
 ·exact ⟨-1,_,rfl,s1,rfl⟩
 ·rintro i σ H2 _ ⟨_,_,_,s2,_⟩;exact SqL.of (s2.at ha)
 ·rintro i z x σ H2 H3 hy ⟨ahead,v3,rfl,s2,inv⟩ ⟨rfl,rfl⟩;have step:Lf.rising ahead count (ns.drop i)=(decide (ahead<z)&&decide (z<count)&&Lf.rising z count (ns.drop (i+1))):=by
   obtain ⟨l1,e1⟩:=List.getElem?_eq_some_iff.mp hy;rw [List.drop_eq_getElem_cons l1,e1];rfl
  walk_at "r";refine zaq (fun h1=>?_) (fun h1=>?_)
  ·walk_at "r";have e:Lf.rising (-1) count ns=false:=by rw [inv,step,decide_eq_false (by lia)];rfl
   rw [<- e];exact k _ s2
  ·walk_at "r";refine zaq (fun h2=>?_) (fun h2=>?_)
   ·walk_at "r";have e:Lf.rising (-1) count ns=false:=by rw [inv,step,decide_eq_false (p:=z<count) (by lia),Bool.and_false];rfl
    rw [<- e];exact k _ s2
   ·walk_at "r";refine ⟨z,_,rfl,s2,?_⟩;rw [inv,step,decide_eq_true (p:=ahead<z) (by lia),decide_eq_true (p:=z<count) (by lia)];rfl
 ·rintro σ H2 ⟨ahead,v3,rfl,s2,inv⟩;walk_at "r";have e:Lf.rising (-1) count ns=true:=by rw [inv,List.drop_length];rfl
  rw [<- e];exact k _ s2
noncomputable abbrev zk9:=bd 11
noncomputable abbrev zph:List Str:=["row","places"]
noncomputable abbrev zcd:List Str:=["row","places"]
theorem zm6:z7 zph zcd (zq zk9):=by walk_at "a"
noncomputable def zjl (K:PySem.W.Frag):Sp:=fun vs H Q _=>∃ (a c:Addr) (row ps:List Int),vs=[.ref a,.ref c]/\SqL K H a (row.map V.int)/\SqL K H c (ps.map V.int)/\(∀ p∈ps,0<=p/\p<(row.length:Int))/\ps.length<=1000000/\∀ p H',H p=none->Same H H'->H' p=some (.lst ((Lf.picks row ps).map V.int))->Q (.ref p) H'
theorem ztz (F:Fun K "signs_at" "signs_at" zk9 f fd) (T:Blt mg):qm P w K mg base CX0 1 f fd zcd (zjl K):=by
 refine F.ok zm6 (fun vs H Q E h=>by obtain ⟨_,_,_,_,rfl,_⟩:=h;rfl) fun cdv A outer s H vs Q E hr h=>?_;obtain ⟨a,c,row,ps,rfl,ha,hc,hin,hn,k⟩:=h;have nd:=zm6.nd;have hu:=hr.units;refine ⟨_,(zp (qx (pcm (N:=["place","row"]) (caps:=[0]) (qb (pv 1)) (fun _ _ _ _=>⟨_,(px (pv 1) (pv 0)),by walk_at "c"⟩)))),?_⟩;try simp only [ck1,ck2]
 rw [show L2.start zph [V.ref a,V.ref c]=[some (V.ref a),some (V.ref c)] from rfl];walk_at "r";refine zbf (wz (ns:=ps)) (fun p=>row.getD p.toNat 0) (fun H' s'=>s'.seq hc) hn ?_ ?_
 ·rintro i z x H3 H4 R R' hi s3 ⟨rfl,rfl⟩ h1;obtain ⟨b1,b2⟩:=hin z (List.mem_of_getElem? hi);walk_at "r";refine ⟨⟨rfl,rfl⟩,?_⟩;walk_at "r";refine zah (by walk_at "f") b1 b2 ?_;exact h1 _ (Same.refl _)
 ·intro D H' hD s' hd;walk_at "r";exact k D H' hD s' hd
noncomputable abbrev zjt:=bd 12
noncomputable abbrev zn1:List Str:=["row","other","places"]
noncomputable abbrev yh:List Str:=["row","other","places"]
theorem zlt:z7 zn1 yh (zq zjt):=by walk_at "a"
noncomputable def zbo (K:PySem.W.Frag):Sp:=fun vs H Q _=>∃ (a b c:Addr) (row other ps:List Int),vs=[.ref a,.ref b,.ref c]/\SqL K H a (row.map V.int)/\SqL K H b (other.map V.int)/\H c=some (.lst (ps.map V.int))/\ps.length<=1000000/\∀ H',Same H H'->Q (.bl (Lf.stands row ps other)) H'
theorem zss (F:Fun K "stands_at" "stands_at" zjt f fd) (T:Blt mg) (zcw:Cal K mg "are_places" f2 fd2 kj) (zcr:qm P w K mg base CX0 3 f2 fd2 kj zdk)
  (zlj:Cal K mg "signs_at" f3 fd3 zcd) (zk6:qm P w K mg base CX0 3 f3 fd3 zcd (zjl K)):qm P w K mg base CX0 4 f fd yh (zbo K):=by
 refine F.ok zlt (fun vs H Q E h=>by obtain ⟨_,_,_,_,_,_,rfl,_⟩:=h;rfl) fun cdv A outer s H vs Q E hr h=>?_;obtain ⟨a,b,c,row,other,ps,rfl,ha,hb,hc,hn,k⟩:=h;have nd:=zlt.nd;have hu:=hr.units;refine ⟨_,(zp (qx (zcv (fcl zcr hr zcw (a2 (pv 2) (ln T (pv 0)))) (zd3 (ec (yp hu) (fcl zk6 hr zlj (a2 (pv 0) (pv 2))) (pv 1)))))),?_⟩;try simp only [ck1,ck2]
 rw [show L2.start zn1 [V.ref a,V.ref b,V.ref c]=[some (V.ref a),some (V.ref b),some (V.ref c)] from rfl];walk_at "r";refine ⟨c,ps,row.length,rfl,hc,hn,fun H1 s1=>?_⟩;rw [Lf.zhr] at k;walk_at "r";refine zu8 (fun h1=>?_) (fun h1=>?_)
 ·walk_at "r";refine ⟨a,c,row,ps,rfl,s1.seq ha,SqL.of (s1.at hc),fun p hp=>?_,hn,fun d H2 hd s2 h2=>?_⟩
  ·have:=Lf.ze8 ps _ _ h1 p hp;lia
  have hb2:SqL K H2 b (other.map V.int):=(s1.trans s2).seq hb;walk_at "r";rw [h1,Bool.true_and] at k;exact k _ (s1.trans s2)
 ·walk_at "r";rw [h1,Bool.false_and] at k;exact k _ s1
noncomputable abbrev zce:=bd 13
noncomputable abbrev ze3:List Str:=["row","other","places","place","sign"]
noncomputable abbrev jo:List Str:=["row","other"]
theorem zej:z7 ze3 jo (zq zce):=by walk_at "a"
noncomputable def zap (K:PySem.W.Frag):Sp:=fun vs H Q _=>∃ (a b:Addr) (row other:List Int),vs=[.ref a,.ref b]/\SqL K H a (row.map V.int)/\SqL K H b (other.map V.int)/\row.length<=100000/\∀ p H',H p=none->Same H H'->H' p=some (.lst ((Lf.yu row other).map V.int))->Q (.ref p) H'
theorem zkw (F:Fun K "earliest_places" "earliest_places" zce f fd) (T:Blt mg):qm P w K mg base CX0 1 f fd jo (zap K):=by
 refine F.ok zej (fun vs H Q E h=>by obtain ⟨_,_,_,_,rfl,_⟩:=h;rfl) fun cdv A outer s H vs Q E hr h=>?_;obtain ⟨a,b,row,other,rfl,ha,hb,hn,k⟩:=h;have nd:=zej.nd;have hu:=hr.units;refine ⟨_,(za (sv 2 nd (zr qu))
  (za (vq PassesOwn.never rfl (zjv rfl T.no_enumerate boot_enumerate (a1 (pv 0))) (zel (n:=2) rfl (jj (gv 3 nd) (jj (gv 4 nd) zb2))) (za (zc2 (tc (yp hu) (ln T (pv 2)) (ln T (pv 1))) (zp zzs) vm)
  (zp (zc2 (tc (yp hu) (pv 4) (px (pv 1) (ln T (pv 2)))) (zp (pap (pv 2) (pv 3))) vm))))
  (zp (qx (pv 2))))),?_⟩
 try simp only [ck1,ck2]
 rw [show L2.start ze3 [V.ref a,V.ref b]=[some (V.ref a),some (V.ref b),none,none,none] from rfl];walk_at "r";intro r hr0;walk_at "r";refine vf (zh5 (xs:=row)) (fun i σ H2=>∃ (pl:List Int) (v3 v4:Option V),σ=[some (.ref a),some (.ref b),some (.ref r),v3,v4]/\Same H H2/\H2 r=some (.lst (pl.map V.int))/\pl.length<=i/\pl.length<=other.length/\Lf.yu row other=pl++Lf.zh9 i (row.drop i) (other.drop pl.length)) ?_ ?_ ?_ ?_
 ·exact ⟨[],_,_,rfl,by walk_at "s",by walk_at "f",Nat.le_refl _,Nat.zero_le _,rfl⟩
 ·rintro i σ H2 _ ⟨_,_,_,_,s2,_⟩;exact s2.seq ha
 ·rintro i ⟨z,j⟩ x σ H2 H3 hy ⟨pl,v3,v4,rfl,s2,h2,l1,l2,inv⟩ ⟨T',hT,rfl,rfl⟩;rw [List.getElem?_zipIdx] at hy;obtain ⟨z',e1,e2⟩:=Option.map_eq_some_iff.mp hy;have ej:j=i:=by have:=congrArg Prod.snd e2;simpa using this.symm
  have ez:z'=z:=congrArg Prod.fst e2;subst ej ez;obtain ⟨hi,e1⟩:=List.getElem?_eq_some_iff.mp e1;have d1:row.drop j=z'::row.drop (j+1):=by rw [List.drop_eq_getElem_cons hi,e1]
  walk_at "r";refine zaq (fun h1=>?_) (fun h1=>?_)
  ·walk_at "r";have d2:other.drop pl.length=[]:=List.drop_of_length_le (by lia);rw [d2,Lf.zj7,List.append_nil] at inv;exact k r _ hr0 (by walk_at "s") (by rw [inv];walk_at "f")
  ·walk_at "r";refine zah (by walk_at "f") (by lia) (by lia) ?_;walk_at "r";have ho:pl.length<other.length:=by lia
   have d2:other.drop pl.length=other.getD ((pl.length:Int)).toNat 0::other.drop (pl.length+1):=by
    rw [List.drop_eq_getElem_cons ho,Int.toNat_natCast,List.getD_eq_getElem?_getD];simp [ho]
   refine zaq (fun h3=>?_) (fun h3=>?_)
   ·walk_at "r";refine zda (by walk_at "f") (by lia) ?_;walk_at "r";refine ⟨pl++[(j:Int)],_,_,rfl,by walk_at "s",by walk_at "f",by simp;lia,by simp;lia,?_⟩;rw [inv,d1,d2,Lf.zh9,if_pos h3];simp
   ·walk_at "r";refine ⟨pl,_,_,rfl,by walk_at "s",by walk_at "f",by lia,by lia,?_⟩;rw [inv,d1,d2,Lf.zh9,if_neg h3];simp
 ·rintro σ H2 ⟨pl,v3,v4,rfl,s2,h2,l1,l2,inv⟩;walk_at "r";rw [List.length_zipIdx,List.drop_length,Lf.zdv,List.append_nil] at inv;exact k r _ hr0 (by walk_at "s") (by rw [inv];walk_at "f")
noncomputable abbrev zoe:=bd 14
noncomputable abbrev zr7:List Str:=["row","other"]
noncomputable abbrev zgw:List Str:=["row","other"]
theorem zo8:z7 zr7 zgw (zq zoe):=by walk_at "a"
noncomputable def zpq (K:PySem.W.Frag):Sp:=fun vs H Q _=>∃ (a b:Addr) (row other:List Int),vs=[.ref a,.ref b]/\SqL K H a (row.map V.int)/\SqL K H b (other.map V.int)/\row.length<=100000/\∀ H',Same H H'->Q (.bl (Lf.isLeft row other)) H'
theorem zvx (F:Fun K "is_left" "is_left" zoe f fd) (T:Blt mg) (ul:Cal K mg "earliest_places" f2 fd2 jo) (um:qm P w K mg base CX0 1 f2 fd2 jo (zap K)):qm P w K mg base CX0 2 f fd zgw (zpq K):=by
 refine F.ok zo8 (fun vs H Q E h=>by obtain ⟨_,_,_,_,rfl,_⟩:=h;rfl) fun cdv A outer s H vs Q E hr h=>?_;obtain ⟨a,b,row,other,rfl,ha,hb,hn,k⟩:=h;have nd:=zo8.nd;have hu:=hr.units;refine ⟨_,(zp (qx (ec (yp hu) (ln T (fcl um hr ul (a2 (pv 0) (pv 1)))) (ln T (pv 1))))),?_⟩;try simp only [ck1,ck2]
 rw [show L2.start zr7 [V.ref a,V.ref b]=[some (V.ref a),some (V.ref b)] from rfl];walk_at "r";refine ⟨a,b,row,other,rfl,ha,hb,hn,fun p H1 hp s1 h1=>?_⟩;walk_at "r";have e:Lf.isLeft row other=decide (((Lf.yu row other).length:Int)=other.length):=by
  have:=Lf.zre row other 0;have q:=Lf.isLeft_iff row other;by_cases h:Lf.isLeft row other=true
  ·rw [h];have e2:=this.mpr (q.mp h);unfold Lf.yu;rw [e2];simp
  ·have e2:¬ (Lf.zh9 0 row other).length=other.length:=fun z=>h (q.mpr (this.mp z));rw [Bool.eq_false_iff.mpr h];unfold Lf.yu;rw [decide_eq_false (by lia)]
 rw [<- e];exact k _ s1
noncomputable def zf6 (C:Addr):Sp:=fun vs H Q _=>∃ (x dx pl a b:Addr) (ps row other:List Int),vs=[.ref x,.ref a,.ref b]/\H x=some (.ins C dx [("places",.ref pl)])/\H pl=some (.lst (ps.map V.int))/\H a=some (.lst (row.map V.int))/\H b=some (.lst (other.map V.int))/\ps.length<=1000/\row.length<=1000/\other.length<=1000/\∀ H',Same H H'->Q (.bl (Lf.stands row ps other)) H'
noncomputable def zey (C:Addr):Sp:=fun vs H Q _=>∃ (x dx pl a b:Addr) (ps row other:List Int),vs=[.ref x,.ref a,.ref b]/\H x=some (.ins C dx [("places",.ref pl)])/\H pl=some (.lst (ps.map V.int))/\H a=some (.lst (row.map V.int))/\H b=some (.lst (other.map V.int))/\ps.length<=1000/\row.length<=1000/\other.length<=1000/\∀ H',Same H H'->Q (.bl (Lf.short row other ps)) H'
noncomputable def zw2 (kL kS:Addr):Sp:=fun vs H Q _=>∃ (a b:Addr) (row other:List Int),vs=[.ref a,.ref b]/\H a=some (.lst (row.map V.int))/\H b=some (.lst (other.map V.int))/\row.length<=1000/\other.length<=1000 /\
 ∀ (C x dx pl:Addr) (ps:List Int) H',H x=none->H pl=none->x≠pl->Same H H'->H' x=some (.ins C dx [("places",.ref pl)])->H' pl=some (.lst (ps.map V.int)) ->
  (C=kL\/C=kS)->ps.length<=other.length->Q (.ref x) H'
noncomputable abbrev zea:=bc 31 0
noncomputable abbrev zht:List Str:=["self","places"]
noncomputable abbrev j8:List Str:=["self","places"]
theorem zgi:z7 zht j8 (zq zea):=by walk_at "a"
noncomputable abbrev zcy:=bc 32 0
noncomputable abbrev zgk:List Str:=["self","places"]
noncomputable abbrev jx:List Str:=["self","places"]
theorem zfd:z7 zgk jx (zq zcy):=by walk_at "a"
noncomputable abbrev zh0:=bc 31 1
noncomputable abbrev zma:List Str:=["self","row","other"]
noncomputable abbrev zau:List Str:=["self","row","other"]
theorem zkt:z7 zma zau (zq zh0):=by walk_at "a"
noncomputable abbrev zfr:=bc 32 1
noncomputable abbrev zj0:List Str:=["self","row","other","many"]
noncomputable abbrev zab:List Str:=["self","row","other"]
theorem zik:z7 zj0 zab (zq zfr):=by walk_at "a"
noncomputable abbrev zxn:=bd 39
noncomputable abbrev z1p:List Str:=["row","other","signs","asked","places"]
noncomputable abbrev zsa:List Str:=["row","other"]
theorem zzk:z7 z1p zsa (zq zxn):=by walk_at "a"
noncomputable def zet (C:Addr):Sp:=fun vs H Q _=>∃ (x dx a:Addr) (ps:List Int),vs=[.ref x,.ref a]/\H x=some (.ins C dx [])/\H a=some (.lst (ps.map V.int))/\∀ pl H',H pl=none->SameBut [x] H H'->H' x=some (.ins C dx [("places",.ref pl)])->H' pl=some (.lst (ps.map V.int))->Q .non H'
theorem zmk (F:Fun K "__init__" "Left.__init__" zea f fd) (T:Blt mg) (zsn:Ins K zax) (zkq:jb K zax "places"):qm P w K mg base CX0 1 f fd j8 (zet zax):=by
 refine F.ok zgi (fun vs H Q E h=>by obtain ⟨_,_,_,_,rfl,_⟩:=h;rfl) fun cdv A outer s H vs Q E hr h=>?_;obtain ⟨x,dx,a,ps,rfl,hx,ha,k⟩:=h;have nd:=zgi.nd;have hu:=hr.units;refine ⟨_,(zp (ze7 (pv 0) (lo T (pv 1)) rfl)),?_⟩;try simp only [ck1,ck2]
 rw [show L2.start zht [V.ref x,V.ref a]=[some (V.ref x),some (V.ref a)] from rfl];walk_at "r";intro pl hpl;walk_at "r";have xpl:pl≠x:=Ne.symm (zj hx hpl);exact k pl _ hpl ((Same.upd_new hpl).but.upd (by simp)) zb (by walk_at "f")
theorem zk1 (F:Fun K "__init__" "Short.__init__" zcy f fd) (T:Blt mg) (zhz:Ins K vd) (zi6:jb K vd "places"):qm P w K mg base CX0 1 f fd jx (zet vd):=by
 refine F.ok zfd (fun vs H Q E h=>by obtain ⟨_,_,_,_,rfl,_⟩:=h;rfl) fun cdv A outer s H vs Q E hr h=>?_;obtain ⟨x,dx,a,ps,rfl,hx,ha,k⟩:=h;have nd:=zfd.nd;have hu:=hr.units;refine ⟨_,(zp (ze7 (pv 0) (lo T (pv 1)) rfl)),?_⟩;try simp only [ck1,ck2]
 rw [show L2.start zgk [V.ref x,V.ref a]=[some (V.ref x),some (V.ref a)] from rfl];walk_at "r";intro pl hpl;walk_at "r";have xpl:pl≠x:=Ne.symm (zj hx hpl);exact k pl _ hpl ((Same.upd_new hpl).but.upd (by simp)) zb (by walk_at "f")
theorem zqd (F:Fun K "shows" "Left.shows" zh0 f fd) (T:Blt mg) (zsn:Ins K zax) (zkq:jb K zax "places")
  (uf:Cal K mg "stands_at" f1 fd1 yh) (ug:qm P w K mg base CX0 4 f1 fd1 yh (zbo K)):qm P w K mg base CX0 5 f fd zau (zf6 zax):=by
 refine F.ok zkt (fun vs H Q E h=>by obtain ⟨_,_,_,_,_,_,_,_,rfl,_⟩:=h;rfl) fun cdv A outer s H vs Q E hr h=>?_;obtain ⟨x,dx,pl,a,b,ps,row,other,rfl,hx,hpl,ha,hb,l1,l2,l3,k⟩:=h;have nd:=zkt.nd;have hu:=hr.units;refine ⟨_,(zp (qx (fcl ug hr uf (a3 (pv 1) (pv 2) (qg (pv 0) rfl))))),?_⟩;try simp only [ck1,ck2]
 rw [show L2.start zma [V.ref x,V.ref a,V.ref b]=[some (V.ref x),some (V.ref a),some (V.ref b)] from rfl];walk_at "r";exact ⟨a,b,pl,row,other,ps,rfl,SqL.of ha,SqL.of hb,hpl,by lia,k⟩
theorem zox (F:Fun K "shows" "Short.shows" zfr f fd) (T:Blt mg) (zhz:Ins K vd) (zi6:jb K vd "places")
  (uf:Cal K mg "stands_at" f1 fd1 yh) (ug:qm P w K mg base CX0 4 f1 fd1 yh (zbo K))
  (ul:Cal K mg "earliest_places" f2 fd2 jo) (um:qm P w K mg base CX0 1 f2 fd2 jo (zap K)):qm P w K mg base CX0 5 f fd zab (zey vd):=by
 refine F.ok zik (fun vs H Q E h=>by obtain ⟨_,_,_,_,_,_,_,_,rfl,_⟩:=h;rfl) fun cdv A outer s H vs Q E hr h=>?_;obtain ⟨x,dx,pl,a,b,ps,row,other,rfl,hx,hpl,ha,hb,l1,l2,l3,k⟩:=h;have nd:=zik.nd;have hu:=hr.units;refine ⟨_,(za (sv 3 nd (ln T (qg (pv 0) rfl)))
  (za (pif (PW.pt (zc6 (tc z3z (pv 3) (ln T (pv 2))) (zbd (yj (j5 (fcl ug hr uf (a3 (pv 1) (ju yo (pv 2) q9 (j4 (pv 3))) (qg (pv 0) rfl)))))))))
  (zp (qx (ec (yp hu) (qg (pv 0) rfl) (fcl um hr ul (a2 (pv 1) (pv 2)))))))),?_⟩
 try simp only [ck1,ck2]
 rw [show L2.start zj0 [V.ref x,V.ref a,V.ref b]=[some (V.ref x),some (V.ref a),some (V.ref b),none] from rfl];walk_at "r";refine zaq (fun h1=>?_) (fun h1=>?_)
 ·walk_at "r";rw [Lf.zu1,decide_eq_false (by lia),Bool.false_and] at k;exact k _ (by walk_at "s")
 ·walk_at "r";intro q hq;walk_at "r";have et:(other.take ((ps.length:Int)).toNat)=other.take ps.length:=by rw [Int.toNat_natCast]
  try rw [et]
  have s1:Same H (upd H q (.lst ((other.take ps.length).map V.int))):=Same.upd_new hq;refine ⟨a,q,pl,row,other.take ps.length,ps,rfl,s1.seq (SqL.of ha),SqL.of zb,s1.at hpl,by lia,fun H2 s2=>?_⟩;have s02:=s1.trans s2;clear s1 s2;have hx2:=s02.at hx;have hpl2:=s02.at hpl;have ha2:=s02.at ha;have hb2:=s02.at hb;walk_at "r";refine zjn (fun h2=>?_) (fun h2=>?_)
  ·walk_at "r";have e:Lf.short row other ps=false:=by
    rw [Bool.eq_false_iff];intro z;rw [(Lf.zjj z).2.1] at h2;cases h2
   rw [e] at k;exact k _ s02
  ·walk_at "r";refine ⟨a,b,row,other,rfl,SqL.of ha2,SqL.of hb2,by lia,fun p H3 hp s3 h3=>?_⟩;walk_at "r";rw [Lf.zu1,decide_eq_true (by lia),Bool.true_and] at k;exact k _ (s02.trans s3)
theorem z3s (F:Fun K "left" "left" zxn f fd) (T:Blt mg)
  (je:Cal K mg "checked_row" f1 fd1 jq) (jf:qm P w K mg base CX0 3 f1 fd1 jq zan)
  (ul:Cal K mg "earliest_places" f2 fd2 jo) (um:qm P w K mg base CX0 1 f2 fd2 jo (zap K))
  (zru:Mak K mg "Left" zax f3 fd3 j8) (zar:qm P w K mg base CX0 1 f3 fd3 j8 (zet zax))
  (zg1:Mak K mg "Short" vd f4 fd4 jx) (ye:qm P w K mg base CX0 1 f4 fd4 jx (zet vd))
  : qm P w K mg base CX0 4 f fd zsa (zw2 zax vd):=by
 refine F.ok zzk (fun vs H Q E h=>by obtain ⟨_,_,_,_,rfl,_⟩:=h;rfl) fun cdv A outer s H vs Q E hr h=>?_;obtain ⟨a,b,row,other,rfl,ha,hb,l1,l2,k⟩:=h;have nd:=zzk.nd;have hu:=hr.units;refine ⟨_,(za (sv 2 nd (fcl jf hr je (a1 (pv 0))))
  (za (sv 3 nd (fcl jf hr je (a1 (pv 1))))
  (za (sv 4 nd (fcl um hr ul (a2 (pv 2) (pv 3))))
  (za (zc2 (tc (yp hu) (ln T (pv 4)) (ln T (pv 3))) (zp (qx (fmk zru zar hr (a1 (pv 4))))) vm)
  (zp (qx (fmk zg1 ye hr (a1 (pv 4))))))))),?_⟩
 try simp only [ck1,ck2]
 rw [show L2.start z1p [V.ref a,V.ref b]=[some (V.ref a),some (V.ref b),none,none,none] from rfl];walk_at "r";refine ⟨a,row,rfl,ha,by lia,fun a2 H1 ha2 s1 h1=>?_⟩;walk_at "r";refine ⟨b,other,rfl,s1.at hb,by lia,fun b2 H2 hb2 s2 h2=>?_⟩;walk_at "r";refine ⟨a2,b2,row,other,rfl,SqL.of (by walk_at "f"),SqL.of (by walk_at "f"),by lia,fun p H3 hp s3 h3=>?_⟩;walk_at "r";refine zaq (fun h=>?_) (fun h=>?_)
 ·walk_at "r";intro x dx hx hdx xdx;refine ⟨x,dx,p,_,rfl,zb,by walk_at "f",fun pl H4 hpl s4 h4 h5=>⟨rfl,?_⟩⟩;have pl0:=zy (zy hpl);refine k zax x dx pl _ H4 (by walk_at "h") (by walk_at "h") (zj (H:=upd (upd H3 dx (.own x)) x (.ins zax dx [])) zb hpl) ?_ h4 h5 (.inl rfl) (Lf.zkx _ _ _);have s03:Same H H3:=by walk_at "s"
  intro b' o hb';refine s4 b' o (zf (zu (s03 _ _ hb') hdx) (zj hb' (s03.free hx))) ?_;have:=zj hb' (s03.free hx);simpa using this
 ·walk_at "r";intro x dx hx hdx xdx;refine ⟨x,dx,p,_,rfl,zb,by walk_at "f",fun pl H4 hpl s4 h4 h5=>⟨rfl,?_⟩⟩;have pl0:=zy (zy hpl);refine k vd x dx pl _ H4 (by walk_at "h") (by walk_at "h") (zj (H:=upd (upd H3 dx (.own x)) x (.ins vd dx [])) zb hpl) ?_ h4 h5 (.inr rfl) (Lf.zkx _ _ _);have s03:Same H H3:=by walk_at "s"
  intro b' o hb';refine s4 b' o (zf (zu (s03 _ _ hb') hdx) (zj hb' (s03.free hx))) ?_;have:=zj hb' (s03.free hx);simpa using this
noncomputable abbrev zt9:=bd 22
noncomputable abbrev zy5:List Str:=["table","one","other","mine","theirs","bounds"]
noncomputable abbrev zjg:List Str:=["table","one","other","mine","theirs"]
theorem zuo:z7 zy5 zjg (zq zt9):=by walk_at "a"
noncomputable def zrf (K:PySem.W.Frag):Sp:=fun vs H Q _=>∃ (t a b:Addr) (ls:List Addr) (tb:List (List Int)) (one other:List Int) (i j:Nat),vs=[.ref t,.ref a,.ref b,.int i,.int j]/\Tab H t ls tb/\SqL K H a (one.map V.int)/\SqL K H b (other.map V.int)/\i<tb.length/\i<=one.length/\j<=other.length/\(0<i->j<(tb.getD (i-1) []).length)/\(0<j->j-1<(tb.getD i []).length) /\
 ∀ H',Same H H'->Q (.int (Lf.bnd one other tb i j)) H'
theorem z0g (F:Fun K "bound" "bound" zt9 f fd) (T:Blt mg):qm P w K mg base CX0 1 f fd zjg (zrf K):=by
 refine F.ok zuo (fun vs H Q E h=>by obtain ⟨_,_,_,_,_,_,_,_,_,rfl,_⟩:=h;rfl) fun cdv A outer s H vs Q E hr h=>?_;obtain ⟨t,a,b,ls,tb,one,other,i,j,rfl,hT,ha,hb,hi,hi1,hj1,hu1,hl1,k⟩:=h;have nd:=zuo.nd;have hu:=hr.units;have ei1:0<i->((i:Int)-1).toNat=i-1:=fun _=>by lia
 have ej1:0<j->((j:Int)-1).toNat=j-1:=fun _=>by lia
 refine ⟨_,(za (sv 5 nd (zr (a1 zc)))
  (za (zc2 (tc zrc (pv 3) zc) (zp (pap (pv 5) (px (px (pv 0) (z9 zak (pv 3) zc)) (pv 4)))) vm)
  (za (zc2 (tc zrc (pv 4) zc) (zp (pap (pv 5) (px (px (pv 0) (pv 3)) (z9 zak (pv 4) zc)))) vm)
  (za (zc2 (PW.pt (zc8 (tc zrc (pv 3) zc) (zc8 (tc zrc (pv 4) zc) (zd2 (tc (yp hu) (px (pv 1) (z9 zak (pv 3) zc)) (px (pv 2) (z9 zak (pv 4) zc))))))) (zp (pap (pv 5) (z9 z8 (px (px (pv 0) (z9 zak (pv 3) zc)) (z9 zak (pv 4) zc)) zc))) vm)
  (zp (qx (jk (zw8 rfl) rfl T.no_max boot_max (a1 (pv 5))))))))),?_⟩
 try simp only [ck1,ck2]
 rw [show L2.start zy5 [V.ref t,V.ref a,V.ref b,V.int i,V.int j]=[some (V.ref t),some (V.ref a),some (V.ref b),some (V.int i),some (V.int j),none] from rfl];walk_at "r";intro c hc;have h0:Same H (upd H c (.lst ((([0]:List Int)).map V.int))):=Same.upd_new hc;have c0:(upd H c (.lst ((([0]:List Int)).map V.int))) c=some (.lst ((([0]:List Int)).map V.int)):=zb;generalize upd H c (.lst ((([0]:List Int)).map V.int))=H0 at h0 c0 ⊢;walk_at "q";refine zpp (fun H'=>Same H H'/\H' c=some (.lst (([0]++(if 0<i then [Lf.tg tb (i-1) j] else [])).map V.int))) (fun N hN=>?_) ?_
 ·walk_at "r";refine zaq (fun h1=>?_) (fun h1=>?_)
  ·walk_at "r";refine ut (hT.same h0) (by lia) (by lia) (fun l1 e1 hl=>?_);rw [ei1 (by lia)] at hl;have:=hu1 (by lia);walk_at "r";refine zah (SqL.of hl) (by lia) (by lia) ?_;rw [Int.toNat_natCast,zjb];walk_at "r";refine zda c0 (by simp) ?_;walk_at "r";refine hN _ ⟨by walk_at "s",?_⟩;rw [if_pos (by lia)];exact zb
  ·walk_at "r";refine hN _ ⟨h0,?_⟩;rw [if_neg (by lia)];exact c0
 clear h0 c0 H0;rintro H1 ⟨s1,c1⟩;refine zpp (fun H'=>Same H H'/\H' c=some (.lst (([0]++(if 0<i then [Lf.tg tb (i-1) j] else [])++(if 0<j then [Lf.tg tb i (j-1)] else [])).map V.int))) (fun N hN=>?_) ?_
 ·walk_at "r";refine zaq (fun h1=>?_) (fun h1=>?_)
  ·walk_at "r";refine ut (hT.same s1) (by lia) (by lia) (fun l1 e1 hl=>?_);rw [Int.toNat_natCast] at hl;have:=hl1 (by lia);walk_at "r";refine zah (SqL.of hl) (by lia) (by lia) ?_;rw [ej1 (by lia),zjb];walk_at "r";refine zda c1 (by split<;>simp) ?_;walk_at "r";refine hN _ ⟨by walk_at "s",?_⟩;rw [if_pos (by lia:0<j)];exact zb
  ·walk_at "r";refine hN _ ⟨s1,?_⟩;rw [if_neg (by lia:¬ 0<j),List.append_nil];exact c1
 clear s1 c1 H1;rintro H1 ⟨s1,c1⟩;refine zpp (fun H'=>Same H H'/\H' c=some (.lst ((Lf.zzn one other tb i j).map V.int))) (fun N hN=>?_) ?_
 ·have no:¬ (0<i/\0<j/\one.getD (i-1) 0=other.getD (j-1) 0)->N [some (.ref t),some (.ref a),some (.ref b),some (.int i),some (.int j),some (.ref c)] H1:=fun z=>by
   refine hN _ ⟨s1,?_⟩;unfold Lf.zzn;rw [if_neg z,List.append_nil];exact c1
  have ha1:=s1.seq ha;have hb1:=s1.seq hb;walk_at "r";refine zaq (fun h1=>?_) (fun h1=>?_);rotate_left
  ·walk_at "r";exact no fun z=>by lia
  walk_at "r";refine zaq (fun h2=>?_) (fun h2=>?_);rotate_left
  ·walk_at "r";exact no fun z=>by lia
  walk_at "r";refine zah ha1 (by lia) (by lia) ?_;walk_at "r";refine zah hb1 (by lia) (by lia) ?_;rw [ei1 (by lia),ej1 (by lia)];walk_at "r";refine zaq (fun h3=>?_) (fun h3=>?_)
  ·walk_at "r";refine ut (hT.same s1) (by lia) (by lia) (fun l1 e1 hl=>?_);rw [ei1 (by lia)] at hl;have:=hu1 (by lia);walk_at "r";refine zah (SqL.of hl) (by lia) (by lia) ?_;rw [ej1 (by lia),zjb];walk_at "r";refine zda c1 (by split<;>split<;>simp) ?_;walk_at "r";refine hN _ ⟨by walk_at "s",?_⟩;unfold Lf.zzn;rw [if_pos (⟨by lia,by lia,h3⟩:0<i/\0<j/\one.getD (i-1) 0=other.getD (j-1) 0)];exact zb
  ·walk_at "r";exact no fun z=>h3 z.2.2
 clear s1 c1 H1;rintro H1 ⟨s1,c1⟩;walk_at "r";refine z45 (SqL.of c1) Lf.znc (fun _=>Lf.zsz) ?_;exact k _ s1
noncomputable abbrev zfw:=bd 23
noncomputable abbrev zjw:List Str:=["table","one","other"]
noncomputable abbrev zb1:List Str:=["table","one","other"]
theorem ziz:z7 zjw zb1 (zq zfw):=by walk_at "a"
noncomputable abbrev zk3:=bd 24
noncomputable abbrev zp5:List Str:=["table","one","other","mine","line","theirs","number"]
noncomputable abbrev zcc:List Str:=["table","one","other"]
theorem znk:z7 zp5 zcc (zq zk3):=by walk_at "a"
noncomputable def zin:Sp:=fun vs H Q _=>∃ (t a b:Addr) (ls:List Addr) (tb:List (List Int)) (one other:List Int),vs=[.ref t,.ref a,.ref b]/\Tab H t ls tb/\H a=some (.lst (one.map V.int))/\H b=some (.lst (other.map V.int))/\tb.length<=1000/\(∀ i,i<tb.length->(tb.getD i []).length<=1000) /\
 ∀ H',Same H H'->Q (.bl (decide (tb.length=one.length+1/\∀ line∈tb,line.length=other.length+1))) H'
theorem zoh (F:Fun K "has_lengths" "has_lengths" zfw f fd) (T:Blt mg) (zfn:Cal K mg "is_row" f2 fd2 zb6) (zf3:qm P w K mg base CX0 2 f2 fd2 zb6 zg6):qm P w K mg base CX0 3 f fd zb1 zin:=by
 refine F.ok ziz (fun vs H Q E h=>by obtain ⟨_,_,_,_,_,_,_,rfl,_⟩:=h;rfl) fun cdv A outer s H vs Q E hr h=>?_;obtain ⟨t,a,b,ls,tb,one,other,rfl,hT,ha,hb,hn,hm,k⟩:=h;have nd:=ziz.nd;have hu:=hr.units;have lz:=hT.len;have hm':∀ line∈tb,line.length<=1000:=fun line hl=>by
  obtain ⟨i,hi,e⟩:=List.mem_iff_getElem.mp hl;have:=hm i hi;rw [List.getD_eq_getElem?_getD,List.getElem?_eq_getElem hi] at this;rw [<- e];exact this
 refine ⟨_,(zp (qx (zcv (ec (yp hu) (ln T (pv 0)) (z9 z8 (ln T (pv 1)) zc)) (zd3 (jk (zbx rfl) rfl T.no_all boot_all (a1 (pcm (N:=["line","other"]) (caps:=[2]) (qb (pv 0)) (fun _ _ _ _=>⟨_,(zcv (fcl zf3 hr zfn (a1 (pv 0))) (zd3 (ec (yp hu) (ln T (pv 0)) (z9 z8 (ln T (pv 1)) zc)))),by walk_at "c"⟩)))))))),?_⟩;try simp only [ck1,ck2]
 rw [show L2.start zjw [V.ref t,V.ref a,V.ref b]=[some (V.ref t),some (V.ref a),some (V.ref b)] from rfl];walk_at "r";refine zrj hT ?_;walk_at "r";refine zaq (fun h1=>?_) (fun h1=>?_)
 ·walk_at "r";refine z0n (SqL.of hT.at_) ?_;refine comp_map (zfx lz) (fun y=>.bl (decide (y.2.length=other.length+1))) (fun H' s'=>hT.same s') (by rw [List.length_zip];lia) ?_ ?_
  ·rintro i ⟨l,line⟩ x H3 H4 R R' hi s3 ⟨rfl,rfl,hl⟩ h3;have ml:=hm' line (List.of_mem_zip (List.mem_of_getElem? hi)).2;walk_at "r";refine ⟨⟨rfl,rfl⟩,?_⟩;walk_at "r";refine ⟨l,line,rfl,hl,by lia,fun H5 s5=>?_⟩;have hl5:=s5.at hl;have hb5:=(s3.trans s5).at hb;walk_at "r";have e:decide ((line.length:Int)=(other.length:Int)+1)=decide (line.length=other.length+1):=by
    by_cases q:line.length=other.length+1
    ·rw [decide_eq_true q,decide_eq_true (by lia)]
    ·rw [decide_eq_false q,decide_eq_false (by lia)]
   rw [e];exact h3 _ s5
  ·intro D H' hD s' hd;walk_at "r";refine zoy (l:=ls.zip tb) (g:=fun y=>decide (y.2.length=other.length+1)) (SqL.of hd) ?_;have e:(ls.zip tb).all (fun y=>decide (y.2.length=other.length+1))=decide (tb.length=one.length+1/\∀ line∈tb,line.length=other.length+1):=by
    have e1:(ls.zip tb).all (fun y=>decide (y.2.length=other.length+1))=tb.all fun l=>decide (l.length=other.length+1):=by
     have:tb=(ls.zip tb).map (·.2):=by rw [List.map_snd_zip (by lia)]
     conv=>rhs;rw [this]
     rw [List.all_map];rfl
    rw [e1];by_cases q:∀ line∈tb,line.length=other.length+1
    ·rw [decide_eq_true ⟨by lia,q⟩,List.all_eq_true];exact fun x hx=>decide_eq_true (q x hx)
    ·rw [decide_eq_false fun z=>q z.2,Bool.eq_false_iff];intro z;rw [List.all_eq_true] at z;exact q fun x hx=>of_decide_eq_true (z x hx)
   rw [e];exact k _ s'
 ·walk_at "r";rw [decide_eq_false fun z=>h1 (by lia)] at k;exact k _ (Same.refl _)
noncomputable def zjs:Sp:=fun vs H Q _=>∃ (t a b:Addr) (ls:List Addr) (tb:List (List Int)) (one other:List Int),vs=[.ref t,.ref a,.ref b]/\Tab H t ls tb/\H a=some (.lst (one.map V.int))/\H b=some (.lst (other.map V.int))/\tb.length<=1000/\(∀ i,i<tb.length->(tb.getD i []).length<=1000) /\
 ∀ H',Same H H'->Q (.bl (Lf.tab one other tb)) H'
theorem zti (F:Fun K "is_table" "is_table" zk3 f fd) (T:Blt mg) (zqc:Cal K mg "has_lengths" f2 fd2 zb1) (zq4:qm P w K mg base CX0 3 f2 fd2 zb1 zin)
  (ztu:Cal K mg "bound" f3 fd3 zjg) (zt5:qm P w K mg base CX0 3 f3 fd3 zjg (zrf K)):qm P w K mg base CX0 4 f fd zcc zjs:=by
 refine F.ok znk (fun vs H Q E h=>by obtain ⟨_,_,_,_,_,_,_,rfl,_⟩:=h;rfl) fun cdv A outer s H vs Q E hr h=>?_;obtain ⟨t,a,b,ls,tb,one,other,rfl,hT,ha,hb,hn,hm,k⟩:=h;have nd:=znk.nd;have hu:=hr.units;have lz:=hT.len;have no:¬ Lf.TabOk one other tb->∀ H',Same H H'->Q (.bl false) H':=fun h H' s'=>by
  have:=k H' s';rw [Lf.zoa h] at this;exact this
 refine ⟨_,(za (pif (yj (j5 (fcl zq4 hr zqc (a3 (pv 0) (pv 1) (pv 2))))))
  (za (vq PassesOwn.never rfl (zjv rfl T.no_enumerate boot_enumerate (a1 (pv 0))) (zel (n:=2) rfl (jj (gv 3 nd) (jj (gv 4 nd) zb2))) (zp (vq PassesOwn.never rfl (zjv rfl T.no_enumerate boot_enumerate (a1 (pv 4))) (zel (n:=2) rfl (jj (gv 5 nd) (jj (gv 6 nd) zb2))) (zp (pif (tc zgu (pv 6) (fcl zt5 hr ztu (zm (pv 0) (zm (pv 1) (zm (pv 2) (zm (pv 3) (zm (pv 5) qu))))))))))))
  (zp (qx zf5)))),?_⟩
 try simp only [ck1,ck2]
 rw [show L2.start zp5 [V.ref t,V.ref a,V.ref b]=[some (V.ref t),some (V.ref a),some (V.ref b),none,none,none,none] from rfl];walk_at "r";refine ⟨t,a,b,ls,tb,one,other,rfl,hT,ha,hb,hn,hm,fun H1 s1=>?_⟩;walk_at "r";refine zdj (fun h1=>?_) (fun h1=>?_)
 ·walk_at "r";refine no (fun z=>h1 ⟨z.len,fun line hl=>?_⟩) _ s1;obtain ⟨i,hi,e⟩:=List.mem_iff_getElem.mp hl;have:=z.lens i (by have:=z.len;lia);rw [List.getD_eq_getElem?_getD,List.getElem?_eq_getElem hi] at this;rw [<- e];exact this
 obtain ⟨hlen,hlens⟩:=h1;have hlens':∀ i,i<=one.length->(tb.getD i []).length=other.length+1:=fun i hi=>by
  have i2:i<tb.length:=by lia
  rw [List.getD_eq_getElem?_getD,List.getElem?_eq_getElem i2];exact hlens _ (List.getElem_mem i2)
 walk_at "r";refine z60 (SqL.of (hT.same s1).at_) ?_;refine vf (z01 lz) (fun i σ H2=>∃ (v3 v4 v5 v6:Option V),σ=[some (.ref t),some (.ref a),some (.ref b),v3,v4,v5,v6]/\Same H H2/\∀ i' j,i'<i->j<=other.length->Lf.bnd one other tb i' j<=Lf.tg tb i' j) ?_ ?_ ?_ ?_
 ·exact ⟨_,_,_,_,rfl,s1,fun i' j hi'=>by lia⟩
 ·rintro i σ H2 _ ⟨_,_,_,_,_,s2,_⟩;exact hT.same s2
 ·rintro i ⟨⟨l,line⟩,j⟩ x σ H2 H3 hy ⟨v3,v4,v5,v6,rfl,s2,inv⟩ ⟨T',hT',rfl,rfl,hl⟩;rw [List.getElem?_zipIdx] at hy;obtain ⟨z',e1,e2⟩:=Option.map_eq_some_iff.mp hy;have ej:j=i:=by have:=congrArg Prod.snd e2;simpa using this.symm
  have ez:z'=(l,line):=congrArg Prod.fst e2;subst ej ez;obtain ⟨hz1,hz2⟩:=List.getElem?_eq_some_iff.mp e1;rw [List.length_zip] at hz1;have hi:j<tb.length:=by lia
  rw [List.getElem_zip] at hz2;have el:tb.getD j []=line:=by
   rw [List.getD_eq_getElem?_getD,List.getElem?_eq_getElem hi];exact congrArg Prod.snd hz2
  have hll:=hlens' j (by lia);rw [el] at hll;have s3:Same H (upd H2 T' (.tup [.int (j:Nat),.ref l])):=by walk_at "s"
  have hl3:(upd H2 T' (.tup [.int (j:Nat),.ref l])) l=some (.lst (line.map V.int)):=zu hl hT';have hT3:(upd H2 T' (.tup [.int (j:Nat),.ref l])) T'=some (.tup [.int (j:Nat),.ref l]):=zb;simp only at *
  generalize upd H2 T' (.tup [.int (j:Nat),.ref l])=H3 at s3 hl3 hT3 ⊢;walk_at "r";refine vf (zh5 (xs:=line)) (fun m σ H4=>∃ (v5 v6:Option V),σ=[some (.ref t),some (.ref a),some (.ref b),some (.int (j:Nat)),some (.ref l),v5,v6]/\Same H H4/\H4 l=some (.lst (line.map V.int))/\∀ m',m'<m->Lf.bnd one other tb j m'<=Lf.tg tb j m') ?_ ?_ ?_ ?_
  ·exact ⟨_,_,rfl,s3,hl3,fun m' hm'=>by lia⟩
  ·rintro m σ H4 _ ⟨_,_,_,_,q,_⟩;exact SqL.of q
  ·rintro m ⟨z,m'⟩ x σ H4 H5 hy ⟨w5,w6,rfl,s4,hl4,inv2⟩ ⟨T4,hT4,rfl,rfl⟩;rw [List.getElem?_zipIdx] at hy;obtain ⟨z',e1',e2'⟩:=Option.map_eq_some_iff.mp hy;have ej:m'=m:=by have:=congrArg Prod.snd e2';simpa using this.symm
   have ez:z'=z:=congrArg Prod.fst e2';subst ej ez;obtain ⟨hm1,hm2⟩:=List.getElem?_eq_some_iff.mp e1';have ez2:z'=Lf.tg tb j m':=by
    unfold Lf.tg;rw [el,List.getD_eq_getElem?_getD,List.getElem?_eq_getElem hm1,hm2];rfl
   have s5:Same H (upd H4 T4 (.tup [.int (m':Nat),.int z'])):=by walk_at "s"
   have hl5:(upd H4 T4 (.tup [.int (m':Nat),.int z'])) l=some (.lst (line.map V.int)):=zu hl4 hT4;have hT5:(upd H4 T4 (.tup [.int (m':Nat),.int z'])) T4=some (.tup [.int (m':Nat),.int z']):=zb;simp only at *
   generalize upd H4 T4 (.tup [.int (m':Nat),.int z'])=H5 at s5 hl5 hT5 ⊢;walk_at "r";refine ⟨t,a,b,ls,tb,one,other,j,m',rfl,hT.same s5,SqL.of (s5.at ha),SqL.of (s5.at hb),hi,by lia,by lia,fun q=>?_,fun q=>?_,fun H6 s6=>?_⟩
   ·rw [hlens' (j-1) (by lia)];lia
   ·rw [el];lia
   walk_at "r";refine zaq (fun h2=>?_) (fun h2=>?_)
   ·walk_at "r";refine no (fun z=>?_) _ (s5.trans s6);have:=(Lf.zx3 hlen hlens').mp z j m' (by lia) (by lia);lia
   ·walk_at "r";refine ⟨_,_,rfl,s5.trans s6,s6.at hl5,fun q hq=>?_⟩;by_cases e:q=m'
    ·subst e;lia
    ·exact inv2 q (by lia)
  ·rintro σ H4 ⟨w5,w6,rfl,s4,hl4,inv2⟩;rw [List.length_zipIdx] at inv2;walk_at "r";refine ⟨_,_,_,_,rfl,s4,fun i' m hi' hm'=>?_⟩;by_cases e:i'=j
   ·subst e;exact inv2 m (by lia)
   ·exact inv i' m (by lia) hm'
 ·rintro σ H2 ⟨v3,v4,v5,v6,rfl,s2,inv⟩;rw [List.length_zipIdx,List.length_zip] at inv;walk_at "r";have e:Lf.tab one other tb=true:=Lf.zj9 ((Lf.zx3 hlen hlens').mpr fun i j hi hj=>inv i j (by lia) hj);rw [<- e];exact k _ s2
noncomputable abbrev zf0:=bd 25
noncomputable abbrev zkd:List Str:=["one","other","table","mine","theirs"]
noncomputable abbrev zaa:List Str:=["one","other"]
theorem zix:z7 zkd zaa (zq zf0):=by walk_at "a"
noncomputable abbrev zf8:=bd 26
noncomputable abbrev zkv:List Str:=["table","one","other","pairs","mine","theirs"]
noncomputable abbrev uv:List Str:=["table","one","other"]
theorem zij:z7 zkv uv (zq zf8):=by walk_at "a"
noncomputable def zex (K:PySem.W.Frag):Sp:=fun vs H Q _=>∃ (a b:Addr) (one other:List Int),vs=[.ref a,.ref b]/\SqL K H a (one.map V.int)/\SqL K H b (other.map V.int)/\one.length<=1000/\other.length<=1000 /\
 ∀ (t:Addr) (ls:List Addr) (tb:List (List Int)) H',H t=none->(∀ l∈ls,H l=none)->ls.Nodup->t∉ls->Same H H'->Tab H' t ls tb->Lf.LT one other tb->Q (.ref t) H'
theorem zon (F:Fun K "least_table" "least_table" zf0 f fd) (T:Blt mg) (ztu:Cal K mg "bound" f2 fd2 zjg) (zt5:qm P w K mg base CX0 3 f2 fd2 zjg (zrf K)):qm P w K mg base CX0 4 f fd zaa (zex K):=by
 refine F.ok zix (fun vs H Q E h=>by obtain ⟨_,_,_,_,rfl,_⟩:=h;rfl) fun cdv A outer s H vs Q E hr h=>?_;obtain ⟨a,b,one,other,rfl,ha,hb,l1,l2,k⟩:=h;have nd:=zix.nd;have hu:=hr.units;refine ⟨_,(za (sv 2 nd (zr qu))
  (za (vq PassesOwn.never rfl (zg2 rfl T.no_range (a1 (z9 z8 (ln T (pv 0)) zc))) (gv 3 nd) (za (pap (pv 2) (zr qu))
  (zp (vq PassesOwn.never rfl (zg2 rfl T.no_range (a1 (z9 z8 (ln T (pv 1)) zc))) (gv 4 nd) (zp (pap (px (pv 2) (pv 3)) (fcl zt5 hr ztu (zm (pv 2) (zm (pv 0) (zm (pv 1) (zm (pv 3) (zm (pv 4) qu))))))))))))
  (zp (qx (pv 2))))),?_⟩
 try simp only [ck1,ck2]
 rw [show L2.start zkd [V.ref a,V.ref b]=[some (V.ref a),some (V.ref b),none,none,none] from rfl];walk_at "r";intro t ht;walk_at "r";have s0:Same H (upd H t (.lst [])):=Same.upd_new ht;have t0:(upd H t (.lst [])) t=some (.lst []):=zb;generalize hG0:upd H t _=H0;have s0:Same H H0:=by rw [<- hG0];exact s0
 have t0:H0 t=some (.lst []):=by rw [<- hG0];exact t0
 clear hG0;have ha0:=s0.seq ha;have hb0:=s0.seq hb;walk_at "r";refine zr4 (by lia) (by lia) ?_;have en:((one.length:Int)+1).toNat=one.length+1:=by lia
 rw [en];refine vf zj2 (fun i σ H2=>∃ (ls:List Addr) (tb:List (List Int)) (v3 v4:Option V),σ=[some (.ref a),some (.ref b),some (.ref t),v3,v4]/\Same H H2/\Tab H2 t ls tb/\(∀ l∈ls,H l=none)/\ls.Nodup/\t∉ls/\((i=0/\tb=[])\/∃ i',i=i'+1/\Lf.LTp one other tb i' (other.length+1))) ?_ ?_ ?_ ?_
 ·exact ⟨[],[],_,_,rfl,s0,⟨t0,rfl,fun i l h=>by simp at h⟩,by simp,.nil,by simp,.inl ⟨rfl,rfl⟩⟩
 ·exact fun _ _ _ _ _=>trivial
 ·rintro i y x σ H2 H3 hy ⟨ls,tb,v3,v4,rfl,s2,hT,fr,ndl,tls,inv⟩ ⟨rfl,rfl⟩;obtain ⟨hi,ey⟩:=List.getElem?_eq_some_iff.mp hy;rw [List.getElem_range] at ey;subst ey;rw [List.length_range] at hi;have lz:=hT.len;have lt:tb.length=i:=by
   rcases inv with ⟨e1,e2⟩|⟨i',e1,L⟩
   ·rw [e2,e1];rfl
   ·rw [L.len];lia
  have Tt:=hT.at_;walk_at "r";intro l hl;have tl:t≠l:=zj hT.at_ hl;walk_at "r";refine zpv (zu hT.at_ hl) (by rw [List.length_map];lia) ?_;have hT4:Tab (upd (upd H3 l (.lst (([]:List Int).map V.int))) t (.lst (ls.map V.ref++[.ref l]))) t (ls++[l]) (tb++[[]]):=(hT.same (Same.upd_new hl)).snoc zb tl tls;have s4:Same H (upd (upd H3 l (.lst (([]:List Int).map V.int))) t (.lst (ls.map V.ref++[.ref l]))):=by walk_at "s"
  generalize upd (upd H3 l (.lst (([]:List Int).map V.int))) t (.lst (ls.map V.ref++[.ref l]))=H4 at hT4 s4 ⊢;have fr4:∀ c∈ls++[l],H c=none:=fun c hc=>by
   rcases List.mem_append.mp hc with q|q
   ·exact fr c q
   ·have:c=l:=by simpa using q
    rw [this];exact s2.free hl
  have nd4:(ls++[l]).Nodup:=by
   rw [List.nodup_append];refine ⟨ndl,by simp,fun x hx y hy=>?_⟩;have:y=l:=by simpa using hy
   rw [this];intro z;obtain ⟨n,hn⟩:=List.getElem?_of_mem hx;have:=hT.row n x hn;rw [z,hl] at this;cases this
  have tl4:t∉ls++[l]:=fun z=>by
   rcases List.mem_append.mp z with q|q
   ·exact tls q
   ·exact tl (by simpa using q)
  have L4:Lf.LTp one other (tb++[[]]) i 0:=by
   rcases inv with ⟨e1,e2⟩|⟨i',e1,L⟩
   ·rw [e2,e1];exact Lf.LTp.start one other
   ·rw [e1];exact L.line
  have ll:(ls++[l])[i]?=some l:=by
   rw [List.getElem?_append_right (by lia),lz,lt,Nat.sub_self];rfl
  generalize ls++[l]=ls4 at hT4 fr4 nd4 tl4 ll;generalize tb++[[]]=tb4 at hT4 L4;clear Tt hT fr ndl tls inv lz lt s2;have hb4:=s4.seq hb;walk_at "r";refine zr4 (by lia) (by lia) ?_;have en2:((other.length:Int)+1).toNat=other.length+1:=by lia
  rw [en2];refine vf zj2 (fun j σ H5=>∃ (tb:List (List Int)) (v4:Option V),σ=[some (.ref a),some (.ref b),some (.ref t),some (.int (0+(i:Int))),v4]/\Same H H5/\Tab H5 t ls4 tb/\Lf.LTp one other tb i j) ?_ ?_ ?_ ?_
  ·exact ⟨tb4,_,rfl,s4,hT4,L4⟩
  ·exact fun _ _ _ _ _=>trivial
  ·clear hT4 L4 s4 hb4 tb4 H4;rintro j y x σ H5 H6 hy2 ⟨tb,v4',rfl,s5,hT5,L5⟩ ⟨rfl,rfl⟩;obtain ⟨hj,ey⟩:=List.getElem?_eq_some_iff.mp hy2;rw [List.getElem_range] at ey;subst ey;rw [List.length_range] at hj;have e0:0+(i:Int)=(i:Int):=by lia
   have e1:0+(j:Int)=(j:Int):=by lia
   have lt5:=L5.len;rw [e0,e1];walk_at "r";refine ut hT5 (by lia) (by lia) (fun l' el hl'=>?_);rw [Int.toNat_natCast] at el hl';have:l'=l:=by rw [ll] at el;exact (Option.some.inj el).symm
   subst this;walk_at "r";refine ⟨t,a,b,ls4,tb,one,other,i,j,rfl,hT5,s5.seq ha,s5.seq hb,by lia,by lia,by lia,fun q=>?_,fun q=>?_,fun H7 s7=>?_⟩
   ·rw [L5.lens (i-1) (by lia)];lia
   ·rw [L5.last];lia
   have hl7:=s7.at hl';have lb:=L5.last;walk_at "r";refine zda hl7 (by lia) ?_;walk_at "r";have tl':t≠l':=fun z=>tl4 (z▸List.mem_of_getElem? ll);have l0:=fr4 l' (List.mem_of_getElem? ll);refine ⟨_,_,rfl,zch (s5.trans s7) l0,(hT5.same s7).set nd4 ll tl',L5.step (by lia)⟩
  ·rintro σ H5 ⟨tb,v4',rfl,s5,hT5,L5⟩;rw [List.length_range] at L5;walk_at "r";exact ⟨ls4,tb,_,_,rfl,s5,hT5,fr4,nd4,tl4,.inr ⟨i,rfl,L5⟩⟩
 ·rintro σ H2 ⟨ls,tb,v3,v4,rfl,s2,hT,fr,ndl,tls,inv⟩;rw [List.length_range] at inv;walk_at "r";rcases inv with ⟨e1,e2⟩|⟨i',e1,L⟩
  ·lia
  ·have:i'=one.length:=by lia
   subst this;exact k t ls tb H2 ht fr ndl tls s2 hT L.done
noncomputable def zez:Sp:=fun vs H Q _=>∃ (t a b:Addr) (ls:List Addr) (tb:List (List Int)) (one other:List Int),vs=[.ref t,.ref a,.ref b]/\H a=some (.lst (one.map V.int))/\H b=some (.lst (other.map V.int))/\Tab H t ls tb/\Lf.LT one other tb/\one.length<=1000/\other.length<=1000 /\
 ∀ (p:Addr) (ts:List Addr) (ps:List (Int×Int)) H',H p=none->Same H H'->Prs H' p ts ps->Lf.AP one other (-1) (-1) ps->Q (.ref p) H'
theorem zoi (F:Fun K "alike_pairs" "alike_pairs" zf8 f fd) (T:Blt mg):qm P w K mg base CX0 1 f fd uv zez:=by
 refine F.ok zij (fun vs H Q E h=>by obtain ⟨_,_,_,_,_,_,_,rfl,_⟩:=h;rfl) fun cdv A outer s H vs Q E hr h=>?_;obtain ⟨t,a,b,ls,tb,one,other,rfl,ha,hb,hT,L,l1,l2,k⟩:=h;have nd:=zij.nd;have hu:=hr.units;have lt:=L.len;refine ⟨_,(za (sv 3 nd (zr qu))
  (za (sv 4 nd (ln T (pv 1)))
  (za (sv 5 nd (ln T (pv 2)))
  (za (zjx PassesOwn.never (tc zrc (px (px (pv 0) (pv 4)) (pv 5)) zc) (zp (zc2 (tc (yp hu) (px (px (pv 0) (z9 zak (pv 4) zc)) (pv 5)) (px (px (pv 0) (pv 4)) (pv 5))) (zp (zoz (i:=4) nd rfl (by first|exact Or.inl rfl|exact Or.inr rfl) zc zuv)) (zp (zc2 (tc (yp hu) (px (px (pv 0) (pv 4)) (z9 zak (pv 5) zc)) (px (px (pv 0) (pv 4)) (pv 5))) (zp (zoz (i:=5) nd rfl (by first|exact Or.inl rfl|exact Or.inr rfl) zc zuv)) (za (zoz (i:=4) nd rfl (by first|exact Or.inl rfl|exact Or.inr rfl) zc zuv)
  (za (zoz (i:=5) nd rfl (by first|exact Or.inl rfl|exact Or.inr rfl) zc zuv)
  (zp (pap (pv 3) (yr (a2 (pv 4) (pv 5))))))))))))
  (za (zgz (zza PySem.F.plainAttrs_list PySem.F.slot_list_reverse PySem.F.type_list_reverse zp9 (pv 3)))
  (zp (qx (pv 3)))))))),?_⟩
 try simp only [ck1,ck2]
 rw [show L2.start zkv [V.ref t,V.ref a,V.ref b]=[some (V.ref t),some (V.ref a),some (V.ref b),none,none,none] from rfl];walk_at "r";intro p hp;walk_at "r";have s0:Same H (upd H p (.lst [])):=Same.upd_new hp;have p0:(upd H p (.lst [])) p=some (.lst []):=zb;generalize hG0:upd H p _=H0;have s0:Same H H0:=by rw [<- hG0];exact s0
 have p0:H0 p=some (.lst []):=by rw [<- hG0];exact p0
 clear hG0;have ha0:=s0.at ha;have hb0:=s0.at hb;walk_at "r";refine zn7 (fun m σ H2=>∃ (i j:Nat) (ts:List Addr) (ps:List (Int×Int)),σ=[some (.ref t),some (.ref a),some (.ref b),some (.ref p),some (.int i),some (.int j)]/\Same H H2/\Prs H2 p ts ps/\i<=one.length/\j<=other.length/\Lf.AP one other ((i:Int)-1) ((j:Int)-1) ps.reverse/\ps.length+i<=one.length/\m=i+j) (one.length+other.length) ?_ ?_
 ·refine ⟨one.length,other.length,[],[],rfl,s0,⟨p0,rfl,fun i t h=>by simp at h⟩,Nat.le_refl _,Nat.le_refl _,⟨rfl,rfl,fun q hq=>by simp at hq⟩,by simp,rfl⟩
 rintro m σ H2 ⟨i,j,ts,ps,rfl,s2,hP,hi,hj,A,hlen,rfl⟩;have hT2:=hT.same s2;have pa:=hP.at_;have lens:=L.lens i hi;have lp:=hP.len;walk_at "r";refine ut hT2 (by lia) (by lia) (fun l5 e5 hl5=>?_);rw [Int.toNat_natCast] at hl5;walk_at "r";refine zah (SqL.of hl5) (by lia) (by lia) ?_;rw [Int.toNat_natCast,zjb];walk_at "r";refine zaq (fun h1=>?_) (fun h1=>?_)
 ·obtain ⟨pi,pj⟩:=L.pos hi hj h1;have lens1:=L.lens (i-1) (by lia);have ei:(i:Int)-1=((i-1:Nat):Int):=by lia
  have ej:(j:Int)-1=((j-1:Nat):Int):=by lia
  refine zsc ?_;walk_at "r";refine ut hT2 (by lia) (by lia) (fun l6 e6 hl6=>?_);rw [ei,Int.toNat_natCast] at hl6;walk_at "r";refine zah (SqL.of hl6) (by lia) (by lia) ?_;rw [Int.toNat_natCast,zjb];walk_at "r";refine ut hT2 (by lia) (by lia) (fun l7 e7 hl7=>?_);rw [Int.toNat_natCast] at hl7;walk_at "r";refine zah (SqL.of hl7) (by lia) (by lia) ?_;rw [Int.toNat_natCast,zjb];walk_at "r";refine zaq (fun h2=>?_) (fun h2=>?_)
  ·walk_at "r";rw [ei];exact ⟨i-1+j,by lia,i-1,j,ts,ps,rfl,s2,hP,by lia,hj,A.low (by lia) (by lia),by lia,rfl⟩
  ·walk_at "r";refine ut hT2 (by lia) (by lia) (fun l8 e8 hl8=>?_);rw [Int.toNat_natCast] at hl8;walk_at "r";refine zah (SqL.of hl8) (by lia) (by lia) ?_;rw [ej,Int.toNat_natCast,zjb];walk_at "r";refine ut hT2 (by lia) (by lia) (fun l9 e9 hl9=>?_);rw [Int.toNat_natCast] at hl9;walk_at "r";refine zah (SqL.of hl9) (by lia) (by lia) ?_;rw [Int.toNat_natCast,zjb];walk_at "r";refine zaq (fun h3=>?_) (fun h3=>?_)
   ·walk_at "r";rw [ej];exact ⟨i+(j-1),by lia,i,j-1,ts,ps,rfl,s2,hP,hi,by lia,A.low (by lia) (by lia),by lia,rfl⟩
   ·obtain ⟨al,eq⟩:=L.diag hi hj h1 h2 h3;walk_at "r";rw [ei,ej];intro T' hT';walk_at "r";refine zpv (zu hP.at_ hT') (by rw [List.length_map];lia) ?_;walk_at "r";have pT:p≠T':=zj hP.at_ hT';refine ⟨i-1+(j-1),by lia,i-1,j-1,ts++[T'],ps++[(((i-1:Nat):Int),((j-1:Nat):Int))],rfl,by walk_at "s",(hP.same (Same.upd_new hT')).snoc zb,by lia,by lia,?_,?_,rfl⟩
    ·rw [List.reverse_append];refine z0m A ei ej (by lia) (by lia) ?_;rw [Int.toNat_natCast,Int.toNat_natCast];exact al
    ·rw [List.length_append,List.length_singleton];lia
 ·walk_at "r";refine z1v hP.at_ ?_;walk_at "r";refine k p ts.reverse ps.reverse _ hp (by walk_at "s") hP.rev (A.low (by lia) (by lia))
structure zko (C:Addr) (H:Hp) (x dx:Addr) (fs:List (Str×V)) (m q t:Addr) (ls:List Addr) (mine theirs:List Int) (tb:List (List Int)):Prop where
 ob:H x=some (.ins C dx fs)
 fm:fs.lookup ("mine":Str)=some (.ref m)
 fq:fs.lookup ("theirs":Str)=some (.ref q)
 fb:fs.lookup ("table":Str)=some (.ref t)
 fn:fs.lookup ("shows":Str)=none
 hm:H m=some (.lst (mine.map V.int))
 hq:H q=some (.lst (theirs.map V.int))
 tab:Tab H t ls tb
theorem zko.same {C:Addr}{H H':Hp}{x dx:Addr}{fs:List (Str×V)}{m q t:Addr}{ls:List Addr}{mine theirs:List Int}{tb:List (List Int)} (L:zko C H x dx fs m q t ls mine theirs tb) (s:Same H H'):zko C H' x dx fs m q t ls mine theirs tb :=
 ⟨s.at L.ob,L.fm,L.fq,L.fb,L.fn,s.at L.hm,s.at L.hq,L.tab.same s⟩
noncomputable def zcx (C:Addr):Sp:=fun vs H Q _=>∃ (x dx:Addr) (fs:List (Str×V)) (m q t:Addr) (ls:List Addr) (mine theirs:List Int) (tb:List (List Int)) (a b:Addr) (one other:List Int),vs=[.ref x,.ref a,.ref b]/\zko C H x dx fs m q t ls mine theirs tb/\H a=some (.lst (one.map V.int))/\H b=some (.lst (other.map V.int)) /\
 mine.length<=1000/\theirs.length<=1000/\tb.length<=1000/\(∀ i,i<tb.length->(tb.getD i []).length<=1000)/\one.length<=1000/\other.length<=1000/\∀ H',Same H H'->Q (.bl (Lf.long one other mine theirs tb)) H'
noncomputable def zp1 (C:Addr):Sp:=fun vs H Q _=>∃ (a b:Addr) (one other:List Int),vs=[.ref a,.ref b]/\H a=some (.lst (one.map V.int))/\H b=some (.lst (other.map V.int))/\one.length<=1000/\other.length<=1000 /\
 ∀ (x dx:Addr) (fs:List (Str×V)) (m q t:Addr) (ls:List Addr) (mine theirs:List Int) (tb:List (List Int)) H',H x=none->H m=none->H q=none->H t=none->(∀ l∈ls,H l=none)->ls.Nodup->m∉ls->q∉ls->t∉ls->Same H H'->zko C H' x dx fs m q t ls mine theirs tb->mine.length<=one.length->theirs.length=mine.length->tb.length=one.length+1->(∀ i,i<tb.length->(tb.getD i []).length=other.length+1)->Q (.ref x) H'
noncomputable abbrev zby:=bc 33 0
noncomputable abbrev zer:List Str:=["self","mine","theirs","table"]
noncomputable abbrev jh:List Str:=["self","mine","theirs","table"]
theorem zds:z7 zer jh (zq zby):=by walk_at "a"
noncomputable abbrev zd7:=bc 33 1
noncomputable abbrev zg3:List Str:=["self","one","other"]
noncomputable abbrev vo:List Str:=["self","one","other"]
theorem zgs:z7 zg3 vo (zq zd7):=by walk_at "a"
noncomputable abbrev zna:=bd 40
noncomputable abbrev zr6:List Str:=["one","other","first","second","table","pairs"]
noncomputable abbrev zg4:List Str:=["one","other"]
theorem zpc:z7 zr6 zg4 (zq zna):=by walk_at "a"
noncomputable def zmo (C:Addr):Sp:=fun vs H Q _=>∃ (x dx a b t:Addr) (ls:List Addr) (ms qs:List Int) (tb:List (List Int)),vs=[.ref x,.ref a,.ref b,.ref t]/\H x=some (.ins C dx [])/\H a=some (.lst (ms.map V.int))/\H b=some (.lst (qs.map V.int))/\Tab H t ls tb/\tb.length<=2000 /\
 ∀ (fs:List (Str×V)) (m q t':Addr) (ls':List Addr) H',H m=none->H q=none->H t'=none->(∀ l∈ls',H l=none)->ls'.Nodup->m∉ls'->q∉ls'->t'∉ls'->SameBut [x] H H'->zko C H' x dx fs m q t' ls' ms qs tb->Q .non H'
theorem zjq (F:Fun K "__init__" "Longest.__init__" zby f fd) (T:Blt mg) (zdp:Ins K z6) (zi4:jb K z6 "mine") (zgg:jb K z6 "theirs") (zhq:jb K z6 "table"):qm P w K mg base CX0 1 f fd jh (zmo z6):=by
 refine F.ok zds (fun vs H Q E h=>by obtain ⟨_,_,_,_,_,_,_,_,_,rfl,_⟩:=h;rfl) fun cdv A outer s H vs Q E hr h=>?_;obtain ⟨x,dx,a,b,t,ls,ms,qs,tb,rfl,hx,ha,hb,hT,hn,k⟩:=h;have nd:=zds.nd;have hu:=hr.units;have lz:=hT.len;refine ⟨_,(za (ze7 (pv 0) (lo T (pv 1)) rfl)
  (za (ze7 (pv 0) (lo T (pv 2)) rfl)
  (zp (ze7 (pv 0) (pcm (N:=["line"]) (caps:=[]) (qb (pv 3)) (fun _ _ _ _=>⟨_,(lo T (pv 0)),by walk_at "c"⟩)) rfl)))),?_⟩
 try simp only [ck1,ck2]
 rw [show L2.start zer [V.ref x,V.ref a,V.ref b,V.ref t]=[some (V.ref x),some (V.ref a),some (V.ref b),some (V.ref t)] from rfl];walk_at "r";intro m hm;have xm:m≠x:=Ne.symm (zj hx hm);have ax:a≠x:=fun e=>by rw [e,hx] at ha;cases ha
 have bx:b≠x:=fun e=>by rw [e,hx] at hb;cases hb
 have tx:t≠x:=fun e=>by have:=hT.at_;rw [e,hx] at this;cases this
 have lx:x∉ls:=fun e=>by
  obtain ⟨n,hn⟩:=List.getElem?_of_mem e;have:=hT.row n x hn;rw [hx] at this;cases this
 walk_at "r";intro q hq;have xq:q≠x:=zuk hq;have mq:m≠q:=zj (zf zb xm) hq;have q0:H q=none:=zy (zy hq);walk_at "r";have s3:SameBut [x] H (upd (upd (upd (upd H m (.lst (ms.map V.int))) x (.ins z6 dx (zbh "mine" (.ref m) []))) q (.lst (qs.map V.int))) x (.ins z6 dx (zbh "theirs" (.ref q) (zbh "mine" (.ref m) [])))) :=
  ((((Same.upd_new hm).but (ls:=[x])).upd (by simp)).new hq).upd (by simp)
 have x3:(upd (upd (upd (upd H m (.lst (ms.map V.int))) x (.ins z6 dx (zbh "mine" (.ref m) []))) q (.lst (qs.map V.int))) x (.ins z6 dx (zbh "theirs" (.ref q) (zbh "mine" (.ref m) [])))) x=some (.ins z6 dx (zbh "theirs" (.ref q) (zbh "mine" (.ref m) []))):=zb;have m3:(upd (upd (upd (upd H m (.lst (ms.map V.int))) x (.ins z6 dx (zbh "mine" (.ref m) []))) q (.lst (qs.map V.int))) x (.ins z6 dx (zbh "theirs" (.ref q) (zbh "mine" (.ref m) [])))) m=some (.lst (ms.map V.int)):=zf (zu (zf zb xm) hq) xm;have q3:(upd (upd (upd (upd H m (.lst (ms.map V.int))) x (.ins z6 dx (zbh "mine" (.ref m) []))) q (.lst (qs.map V.int))) x (.ins z6 dx (zbh "theirs" (.ref q) (zbh "mine" (.ref m) [])))) q=some (.lst (qs.map V.int)):=zf zb xq;generalize (upd (upd (upd (upd H m (.lst (ms.map V.int))) x (.ins z6 dx (zbh "mine" (.ref m) []))) q (.lst (qs.map V.int))) x (.ins z6 dx (zbh "theirs" (.ref q) (zbh "mine" (.ref m) []))))=H3 at s3 x3 m3 q3 ⊢;have T3:Tab H3 t ls tb:=⟨s3.at hT.at_ (by simpa using tx),lz,fun i l hl=>s3.at (hT.row i l hl) (by
  have ne:l≠x:=fun e=>lx (e▸List.mem_of_getElem? hl)
  simpa using ne)⟩
 have Tt:=T3.at_;walk_at "r";refine zdf (zfx lz) (fun y=>.lst (y.2.map V.int)) (fun H' s'=>T3.same s') (by rw [List.length_zip];lia) ?_ ?_
 ·rintro i ⟨l,line⟩ x' H4 H5 R R' hi s4 ⟨rfl,rfl,hl⟩ h4;walk_at "r";refine ⟨⟨rfl,rfl⟩,?_⟩;walk_at "r";intro p hp;exact h4 p _ (Same.upd_new hp) hp zb
 ·intro D H' ls' hD s' hd ll nd' nD fr at';have x4:=s'.at x3;walk_at "r";have T4:Tab H' D ls' tb:=Tab.of_copy lz hd ll at';have Dx:D≠x:=Ne.symm (zj x3 hD);have mls:m∉ls':=fun e=>by have:=fr m e;rw [m3] at this;cases this
  have qls:q∉ls':=fun e=>by have:=fr q e;rw [q3] at this;cases this
  have xls:x∉ls':=fun e=>by have:=fr x e;rw [x3] at this;cases this
  have f0:∀ c,H3 c=none->H c=none:=fun c hc=>by
   cases e:H c with
   |none=>rfl
   |some o =>
    by_cases cx:c=x
    ·rw [cx,x3] at hc;cases hc
    ·have:=s3.at e (by simpa using cx);rw [hc] at this;cases this
  refine k _ m q D ls' _ hm q0 (f0 D hD) (fun l hl=>f0 l (fr l hl)) nd' mls qls nD ((s3.trans s'.but).upd (by simp)) ⟨zb,?_,?_,?_,?_,zf (s'.at m3) xm,zf (s'.at q3) xq,?_⟩
  ·simp only [jd];rfl
  ·simp only [jd];rfl
  ·simp only [jd];rfl
  ·simp only [jd];rfl
  ·exact ⟨zf T4.at_ Dx,T4.len,fun i l hl=>zf (T4.row i l hl) fun e=>xls (e▸List.mem_of_getElem? hl)⟩
theorem zmc (F:Fun K "shows" "Longest.shows" zd7 f fd) (T:Blt mg) (zdp:Ins K z6) (zi4:jb K z6 "mine") (zgg:jb K z6 "theirs") (zhq:jb K z6 "table")
  (zcw:Cal K mg "are_places" f1 fd1 kj) (zcr:qm P w K mg base CX0 4 f1 fd1 kj zdk)
  (zlj:Cal K mg "signs_at" f2 fd2 zcd) (zk6:qm P w K mg base CX0 4 f2 fd2 zcd (zjl K))
  (uf:Cal K mg "stands_at" f3 fd3 yh) (ug:qm P w K mg base CX0 4 f3 fd3 yh (zbo K))
  (zli:Cal K mg "is_table" f4 fd4 zcc) (zk5:qm P w K mg base CX0 4 f4 fd4 zcc zjs):qm P w K mg base CX0 5 f fd vo (zcx z6):=by
 refine F.ok zgs (fun vs H Q E h=>by obtain ⟨_,_,_,_,_,_,_,_,_,_,_,_,_,_,rfl,_⟩:=h;rfl) fun cdv A outer s H vs Q E hr h=>?_;obtain ⟨x,dx,fs,m,q,t,ls,mine,theirs,tb,a,b,one,other,rfl,L,ha,hb,n1,n2,n3,n4,n5,n6,k⟩:=h;obtain ⟨ob,fm,fq,fb,fn,hm,hq,hT⟩:=id L;have nd:=zgs.nd;have hu:=hr.units;rw [Lf.z34] at k;refine ⟨_,(za (pif (PW.pt (zc6 (yj (j5 (fcl zcr hr zcw (a2 (qg (pv 0) rfl) (ln T (pv 1)))))) (zbd (yj (j5 (fcl ug hr uf (a3 (pv 2) (fcl zk6 hr zlj (a2 (pv 1) (qg (pv 0) rfl))) (qg (pv 0) rfl)))))))))
  (zp (qx (zcv (fcl zk5 hr zli (a3 (qg (pv 0) rfl) (pv 1) (pv 2))) (zd3 (ec (yp hu) (px (px (qg (pv 0) rfl) (zdh zao zc)) (zdh zao zc)) (ln T (qg (pv 0) rfl)))))))),?_⟩
 try simp only [ck1,ck2]
 rw [show L2.start zg3 [V.ref x,V.ref a,V.ref b]=[some (V.ref x),some (V.ref a),some (V.ref b)] from rfl];walk_at "r";refine ⟨m,mine,one.length,rfl,hm,by lia,fun H1 s1=>?_⟩;walk_at "r";refine zjn (fun h1=>?_) (fun h1=>?_)
 ·walk_at "r";rw [h1,Bool.false_and,Bool.false_and] at k;exact k _ s1
 rw [h1,Bool.true_and] at k;have ob1:=s1.at ob;walk_at "r";refine ⟨a,m,one,mine,rfl,SqL.of (s1.at ha),SqL.of (s1.at hm),fun p hp=>?_,by lia,fun p H2 hp s2 h2=>?_⟩
 ·have:=Lf.ze8 mine _ _ h1 p hp;lia
 have s02:=s1.trans s2;have ob2:=s02.at ob;clear s1 s2 ob1;walk_at "r";refine ⟨b,p,q,other,Lf.picks one mine,theirs,rfl,SqL.of (s02.at hb),SqL.of h2,s02.at hq,by lia,fun H3 s3=>?_⟩;have s03:=s02.trans s3;clear s02 s3 ob2;have ob3:=s03.at ob;have hm3:=s03.at hm;have T3:=hT.same s03;walk_at "r";refine zjn (fun h3=>?_) (fun h3=>?_)
 ·walk_at "r";rw [h3,Bool.false_and] at k;exact k _ s03
 rw [h3,Bool.true_and] at k;walk_at "r";refine ⟨t,a,b,ls,tb,one,other,rfl,T3,s03.at ha,s03.at hb,n3,n4,fun H4 s4=>?_⟩;have s04:=s03.trans s4;have ob4:=s04.at ob;have hm4:=s04.at hm;have T4:=hT.same s04;clear s03 s4 ob3 hm3 T3;walk_at "r";refine zu8 (fun h4=>?_) (fun h4=>?_)
 ·have ok:=Lf.znl.mp h4;have len:=ok.len;rw [h4,Bool.true_and] at k;walk_at "r";refine zfz T4 (by lia) (fun l5 e5 hl5=>?_);have ll:(tb.getD (tb.length-1) []).length=other.length+1:=by rw [show tb.length-1=one.length by lia];exact ok.lens _ (Nat.le_refl _)
  walk_at "r";refine zhy (SqL.of hl5) (by lia) ?_;rw [show (tb.getD (tb.length-1) []).getD ((tb.getD (tb.length-1) []).length-1) 0=Lf.zqy tb from rfl];walk_at "r";exact k _ s04
 ·walk_at "r";rw [h4,Bool.false_and] at k;exact k _ s04
theorem zvp (F:Fun K "longest" "longest" zna f fd) (T:Blt mg)
  (je:Cal K mg "checked_row" f1 fd1 jq) (jf:qm P w K mg base CX0 3 f1 fd1 jq zan)
  (zft:Cal K mg "least_table" f2 fd2 zaa) (zfv:qm P w K mg base CX0 4 f2 fd2 zaa (zex K))
  (zga:Cal K mg "alike_pairs" f3 fd3 uv) (zfl:qm P w K mg base CX0 4 f3 fd3 uv zez)
  (zd1:Mak K mg "Longest" z6 f4 fd4 jh) (yd:qm P w K mg base CX0 1 f4 fd4 jh (zmo z6))
  : qm P w K mg base CX0 5 f fd zg4 (zp1 z6):=by
 refine F.ok zpc (fun vs H Q E h=>by obtain ⟨_,_,_,_,rfl,_⟩:=h;rfl) fun cdv A outer s H vs Q E hr h=>?_;obtain ⟨a,b,one,other,rfl,ha,hb,l1,l2,k⟩:=h;have nd:=zpc.nd;have hu:=hr.units;refine ⟨_,(za (sv 2 nd (fcl jf hr je (a1 (pv 0))))
  (za (sv 3 nd (fcl jf hr je (a1 (pv 1))))
  (za (sv 4 nd (fcl zfv hr zft (a2 (pv 2) (pv 3))))
  (za (sv 5 nd (fcl zfl hr zga (a3 (pv 4) (pv 2) (pv 3))))
  (zp (qx (fmk zd1 yd hr (a3 (pcm (N:=["pair"]) (caps:=[]) (qb (pv 5)) (fun _ _ _ _=>⟨_,(px (pv 0) zc),by walk_at "c"⟩)) (pcm (N:=["pair"]) (caps:=[]) (qb (pv 5)) (fun _ _ _ _=>⟨_,(px (pv 0) zc),by walk_at "c"⟩)) (pv 4))))))))),?_⟩
 try simp only [ck1,ck2]
 rw [show L2.start zr6 [V.ref a,V.ref b]=[some (V.ref a),some (V.ref b),none,none,none,none] from rfl];walk_at "r";refine ⟨a,one,rfl,ha,by lia,fun a2 H1 ha2 s1 h1=>?_⟩;walk_at "r";refine ⟨b,other,rfl,s1.at hb,by lia,fun b2 H2 hb2 s2 h2=>?_⟩;have h12:=s2.at h1;walk_at "r";refine ⟨a2,b2,one,other,rfl,SqL.of h12,SqL.of h2,l1,l2,fun t ls tb H3 ht fr ndl tls s3 hT L=>?_⟩;have s03:Same H H3:=(s1.trans s2).trans s3;have a3:=s3.at h12;have b3:=s3.at h2;have t0:H t=none:=(s1.trans s2).free ht;have fr0:∀ l∈ls,H l=none:=fun l hl=>(s1.trans s2).free (fr l hl);clear s1 s2 s3 h12 h1 h2 ha2 hb2 ht fr;walk_at "r";refine ⟨t,a2,b2,ls,tb,one,other,rfl,a3,b3,hT,L,l1,l2,fun p ts ps H4 hp s4 hP A=>?_⟩;have s04:=s03.trans s4;have T4:=hT.same s4;clear a3 b3 hT;have pa:=hP.at_;have lens:=L.len;have lp1:ps.length<=one.length:=by
  have:=Lf.zle _ _ _ A.mine;rw [List.length_map] at this;lia
 have lps:ps.length<=1000:=Nat.le_trans lp1 l1;walk_at "r";refine zbf (znu hP.len) (fun y=>y.2.1) (fun H' s'=>hP.same s') (by rw [List.length_zip];lia) ?_ ?_
 ·rintro i ⟨u,v⟩ x' H5 H6 R R' hi s5 ⟨rfl,rfl,hu'⟩ h5;walk_at "r";refine ⟨⟨rfl,rfl⟩,?_⟩;walk_at "r";refine zlh hu' rfl ?_;exact h5 _ (Same.refl _)
 intro D H5 hD s5 hd;have P5:=hP.same s5;have pa5:=P5.at_;walk_at "r";refine zbf (znu P5.len) (fun y=>y.2.2) (fun H' s'=>P5.same s') (by rw [List.length_zip];lia) ?_ ?_
 ·rintro i ⟨u,v⟩ x' H6 H7 R R' hi s6 ⟨rfl,rfl,hu'⟩ h6;walk_at "r";refine ⟨⟨rfl,rfl⟩,?_⟩;walk_at "r";refine zlh hu' rfl ?_;exact h6 _ (Same.refl _)
 intro D2 H6 hD2 s6 hd2;have d6:=s6.at hd;have T6:=T4.same (s5.trans s6);have s06:Same H H6:=s04.trans (s5.trans s6);have e1:(ts.zip ps).map (fun y=>y.2.1)=ps.map (·.1):=by
  conv=>rhs;rw [show ps=(ts.zip ps).map (·.2) by rw [List.map_snd_zip (by rw [hP.len];exact Nat.le_refl _)]]
  rw [List.map_map];rfl
 have e2:(ts.zip ps).map (fun y=>y.2.2)=ps.map (·.2):=by
  conv=>rhs;rw [show ps=(ts.zip ps).map (·.2) by rw [List.map_snd_zip (by rw [hP.len];exact Nat.le_refl _)]]
  rw [List.map_map];rfl
 rw [e1] at d6;rw [e2] at hd2;clear s5 s6 s4 s03 P5 pa pa5 hP hd T4;walk_at "r";intro x dx hx hdx xdx;have hD6:∀ {c o},H6 c=some o->(upd (upd H6 dx (.own x)) x (.ins z6 dx [])) c=some o:=fun {c o} hc=>zf (zu hc hdx) (zj hc hx);refine ⟨x,dx,D,D2,t,ls,_,_,tb,rfl,zb,hD6 d6,hD6 hd2,⟨hD6 T6.at_,T6.len,fun i l hl=>hD6 (T6.row i l hl)⟩,by lia,fun fs m q t' ls' H7 hm hq ht' fr' nd' mls qls tls' s7 LA=>⟨rfl,?_⟩⟩;have f0:∀ c,(upd (upd H6 dx (.own x)) x (.ins z6 dx [])) c=none->H c=none:=fun c hc=>s06.free (zy (zy hc));refine k x dx fs m q t' ls' _ _ tb H7 (s06.free hx) (f0 m hm) (f0 q hq) (f0 t' ht') (fun l hl=>f0 l (fr' l hl)) nd' mls qls tls' ?_ LA (by rw [List.length_map];exact lp1) (by rw [List.length_map,List.length_map]) lens (fun i hi=>L.lens i (by lia));intro c o hc;exact s7 c o (hD6 (s06 _ _ hc)) (by simpa using zj hc (s06.free hx))
structure ziq (C:Addr) (H:Hp) (x dx:Addr) (fs:List (Str×V)) (r m q t:Addr) (ls:List Addr) (row mine theirs:List Int) (tb:List (List Int)):Prop where
 ob:H x=some (.ins C dx fs)
 fr:fs.lookup ("row":Str)=some (.ref r)
 fm:fs.lookup ("mine":Str)=some (.ref m)
 fq:fs.lookup ("theirs":Str)=some (.ref q)
 fb:fs.lookup ("table":Str)=some (.ref t)
 fn:fs.lookup ("shows":Str)=none
 hr:H r=some (.lst (row.map V.int))
 hm:H m=some (.lst (mine.map V.int))
 hq:H q=some (.lst (theirs.map V.int))
 tab:Tab H t ls tb
theorem ziq.same (L:ziq C H x dx fs r m q t ls row mine theirs tb) (s:Same H H'):ziq C H' x dx fs r m q t ls row mine theirs tb :=
 ⟨s.at L.ob,L.fr,L.fm,L.fq,L.fb,L.fn,s.at L.hr,s.at L.hm,s.at L.hq,L.tab.same s⟩
structure Apart (r m q t:Addr) (ls:List Addr):Prop where
 rm:r≠m
 rq:r≠q
 mq:m≠q
 rt:r≠t
 mt:m≠t
 qt:q≠t
 rl:r∉ls
 ml:m∉ls
 ql:q∉ls
 tl:t∉ls
 nd:ls.Nodup
noncomputable def zj5 (C:Addr):Sp:=fun vs H Q _=>∃ (x dx:Addr) (fs:List (Str×V)) (r m q t:Addr) (ls:List Addr) (row mine theirs:List Int) (tb:List (List Int)) (a b:Addr) (one other:List Int),vs=[.ref x,.ref a,.ref b]/\ziq C H x dx fs r m q t ls row mine theirs tb/\H a=some (.lst (one.map V.int))/\H b=some (.lst (other.map V.int)) /\
 row.length<=2000/\mine.length<=1000/\theirs.length<=1000/\tb.length<=1000/\(∀ i,i<tb.length->(tb.getD i []).length<=1000)/\one.length<=1000/\other.length<=1000/\∀ H',Same H H'->Q (.bl (Lf.both one other row mine theirs tb)) H'
noncomputable def zn4 (C:Addr):Sp:=fun vs H Q _=>∃ (a b:Addr) (one other:List Int),vs=[.ref a,.ref b]/\H a=some (.lst (one.map V.int))/\H b=some (.lst (other.map V.int))/\one.length<=1000/\other.length<=1000 /\
 ∀ (x dx:Addr) (fs:List (Str×V)) (r m q t:Addr) (ls:List Addr) (row mine theirs:List Int) (tb:List (List Int)) H',H x=none->H r=none->H m=none->H q=none->H t=none->(∀ l∈ls,H l=none)->Apart r m q t ls->Same H H'->ziq C H' x dx fs r m q t ls row mine theirs tb->mine.length=one.length->theirs.length=other.length->row.length<=one.length+other.length->tb.length=one.length+1->(∀ i,i<tb.length->(tb.getD i []).length=other.length+1)->Q (.ref x) H'
noncomputable abbrev zd0:=bc 34 0
noncomputable abbrev zhp:List Str:=["self","row","mine","theirs","table"]
noncomputable abbrev vy:List Str:=["self","row","mine","theirs","table"]
theorem zgh:z7 zhp vy (zq zd0):=by walk_at "a"
noncomputable abbrev zhk:=bc 34 1
noncomputable abbrev zly:List Str:=["self","one","other"]
noncomputable abbrev zcl:List Str:=["self","one","other"]
theorem zkk:z7 zly zcl (zq zhk):=by walk_at "a"
noncomputable def zqh (C:Addr):Sp:=fun vs H Q _=>∃ (x dx c a b t:Addr) (ls:List Addr) (rs ms qs:List Int) (tb:List (List Int)),vs=[.ref x,.ref c,.ref a,.ref b,.ref t]/\H x=some (.ins C dx [])/\H c=some (.lst (rs.map V.int))/\H a=some (.lst (ms.map V.int))/\H b=some (.lst (qs.map V.int))/\Tab H t ls tb/\tb.length<=2000 /\
 ∀ (fs:List (Str×V)) (r m q t':Addr) (ls':List Addr) H',H r=none->H m=none->H q=none->H t'=none->(∀ l∈ls',H l=none)->Apart r m q t' ls'->SameBut [x] H H'->ziq C H' x dx fs r m q t' ls' rs ms qs tb->Q .non H'
theorem zmf (F:Fun K "__init__" "Both.__init__" zd0 f fd) (T:Blt mg) (zxu:Ins K jm) (zpt:jb K jm "row") (zns:jb K jm "mine") (zkz:jb K jm "theirs") (zlv:jb K jm "table"):qm P w K mg base CX0 1 f fd vy (zqh jm):=by
 refine F.ok zgh (fun vs H Q E h=>by obtain ⟨_,_,_,_,_,_,_,_,_,_,_,rfl,_⟩:=h;rfl) fun cdv A outer s H vs Q E hr h=>?_;obtain ⟨x,dx,c,a,b,t,ls,rs,ms,qs,tb,rfl,hx,hc,ha,hb,hT,hn,k⟩:=h;have nd:=zgh.nd;have hu:=hr.units;have lz:=hT.len;have cx:c≠x:=fun e=>by rw [e,hx] at hc;cases hc
 have ax:a≠x:=fun e=>by rw [e,hx] at ha;cases ha
 have bx:b≠x:=fun e=>by rw [e,hx] at hb;cases hb
 have tx:t≠x:=fun e=>by have:=hT.at_;rw [e,hx] at this;cases this
 have lx:x∉ls:=fun e=>by
  obtain ⟨n,hn⟩:=List.getElem?_of_mem e;have:=hT.row n x hn;rw [hx] at this;cases this
 refine ⟨_,(za (ze7 (pv 0) (lo T (pv 1)) rfl)
  (za (ze7 (pv 0) (lo T (pv 2)) rfl)
  (za (ze7 (pv 0) (lo T (pv 3)) rfl)
  (zp (ze7 (pv 0) (pcm (N:=["line"]) (caps:=[]) (qb (pv 4)) (fun _ _ _ _=>⟨_,(lo T (pv 0)),by walk_at "c"⟩)) rfl))))),?_⟩
 try simp only [ck1,ck2]
 rw [show L2.start zhp [V.ref x,V.ref c,V.ref a,V.ref b,V.ref t]=[some (V.ref x),some (V.ref c),some (V.ref a),some (V.ref b),some (V.ref t)] from rfl];walk_at "r";intro r hr0;have xr:r≠x:=Ne.symm (zj hx hr0);walk_at "r";have s1:SameBut [x] H (upd (upd H r (.lst (rs.map V.int))) x (.ins jm dx (zbh "row" (.ref r) []))):=((Same.upd_new hr0).but (ls:=[x])).upd (by simp);have x1:(upd (upd H r (.lst (rs.map V.int))) x (.ins jm dx (zbh "row" (.ref r) []))) x=some (.ins jm dx (zbh "row" (.ref r) [])):=zb;have r1:(upd (upd H r (.lst (rs.map V.int))) x (.ins jm dx (zbh "row" (.ref r) []))) r=some (.lst (rs.map V.int)):=zf zb xr;generalize upd (upd H r (.lst (rs.map V.int))) x (.ins jm dx (zbh "row" (.ref r) []))=H1 at s1 x1 r1 ⊢;have f1:∀ z,H1 z=none->H z=none:=fun z hz=>by
  cases e:H z with
  |none=>rfl
  |some o =>
   by_cases zx:z=x
   ·rw [zx,x1] at hz;cases hz
   ·have:=s1.at e (by simpa using zx);rw [hz] at this;cases this
 have a1:=s1.at ha (by simpa using ax);have b1:=s1.at hb (by simpa using bx);have T1:Tab H1 t ls tb:=⟨s1.at hT.at_ (by simpa using tx),lz,fun i l hl=>s1.at (hT.row i l hl) (by
  have ne:l≠x:=fun e=>lx (e▸List.mem_of_getElem? hl)
  simpa using ne)⟩
 clear ha hb hT hc;walk_at "r";intro m hm;have xm:m≠x:=Ne.symm (zj x1 hm);have rm:r≠m:=zj r1 hm;walk_at "r";have s2:SameBut [x] H1 (upd (upd H1 m (.lst (ms.map V.int))) x (.ins jm dx (zbh "mine" (.ref m) (zbh "row" (.ref r) [])))):=((Same.upd_new hm).but (ls:=[x])).upd (by simp);have x2:(upd (upd H1 m (.lst (ms.map V.int))) x (.ins jm dx (zbh "mine" (.ref m) (zbh "row" (.ref r) [])))) x=some (.ins jm dx (zbh "mine" (.ref m) (zbh "row" (.ref r) []))):=zb;have m2:(upd (upd H1 m (.lst (ms.map V.int))) x (.ins jm dx (zbh "mine" (.ref m) (zbh "row" (.ref r) [])))) m=some (.lst (ms.map V.int)):=zf zb xm;generalize upd (upd H1 m (.lst (ms.map V.int))) x (.ins jm dx (zbh "mine" (.ref m) (zbh "row" (.ref r) [])))=H2 at s2 x2 m2 ⊢;have f2:∀ z,H2 z=none->H1 z=none:=fun z hz=>by
  cases e:H1 z with
  |none=>rfl
  |some o =>
   by_cases zx:z=x
   ·rw [zx,x2] at hz;cases hz
   ·have:=s2.at e (by simpa using zx);rw [hz] at this;cases this
 have r2:=s2.at r1 (by simpa using xr);have b2:=s2.at b1 (by simpa using bx);have T2:Tab H2 t ls tb:=⟨s2.at T1.at_ (by simpa using tx),lz,fun i l hl=>s2.at (T1.row i l hl) (by
  have ne:l≠x:=fun e=>lx (e▸List.mem_of_getElem? hl)
  simpa using ne)⟩
 clear a1 b1 T1;walk_at "r";intro q hq;have xq:q≠x:=Ne.symm (zj x2 hq);have rq:r≠q:=zj r2 hq;have mq:m≠q:=zj m2 hq;walk_at "r";have s3:SameBut [x] H2 (upd (upd H2 q (.lst (qs.map V.int))) x (.ins jm dx (zbh "theirs" (.ref q) (zbh "mine" (.ref m) (zbh "row" (.ref r) []))))):=((Same.upd_new hq).but (ls:=[x])).upd (by simp);have x3:(upd (upd H2 q (.lst (qs.map V.int))) x (.ins jm dx (zbh "theirs" (.ref q) (zbh "mine" (.ref m) (zbh "row" (.ref r) []))))) x=some (.ins jm dx (zbh "theirs" (.ref q) (zbh "mine" (.ref m) (zbh "row" (.ref r) [])))):=zb;have q3:(upd (upd H2 q (.lst (qs.map V.int))) x (.ins jm dx (zbh "theirs" (.ref q) (zbh "mine" (.ref m) (zbh "row" (.ref r) []))))) q=some (.lst (qs.map V.int)):=zf zb xq;generalize upd (upd H2 q (.lst (qs.map V.int))) x (.ins jm dx (zbh "theirs" (.ref q) (zbh "mine" (.ref m) (zbh "row" (.ref r) []))))=H3 at s3 x3 q3 ⊢;have f3:∀ z,H3 z=none->H2 z=none:=fun z hz=>by
  cases e:H2 z with
  |none=>rfl
  |some o =>
   by_cases zx:z=x
   ·rw [zx,x3] at hz;cases hz
   ·have:=s3.at e (by simpa using zx);rw [hz] at this;cases this
 have r3:=s3.at r2 (by simpa using xr);have m3:=s3.at m2 (by simpa using xm);have T3:Tab H3 t ls tb:=⟨s3.at T2.at_ (by simpa using tx),lz,fun i l hl=>s3.at (T2.row i l hl) (by
  have ne:l≠x:=fun e=>lx (e▸List.mem_of_getElem? hl)
  simpa using ne)⟩
 have Tt:=T3.at_;clear b2 T2 r1 r2 m2;walk_at "r";refine zdf (zfx lz) (fun y=>.lst (y.2.map V.int)) (fun H' s'=>T3.same s') (by rw [List.length_zip];lia) ?_ ?_
 ·rintro i ⟨l,line⟩ x' H4 H5 R R' hi s4 ⟨rfl,rfl,hl⟩ h4;walk_at "r";refine ⟨⟨rfl,rfl⟩,?_⟩;walk_at "r";intro p hp;exact h4 p _ (Same.upd_new hp) hp zb
 ·intro D H' ls' hD s' hd ll nd' nD fr at';have x4:=s'.at x3;walk_at "r";have T4:Tab H' D ls' tb:=Tab.of_copy lz hd ll at';have Dx:D≠x:=Ne.symm (zj x3 hD);have rls:r∉ls':=fun e=>by have:=fr r e;rw [r3] at this;cases this
  have mls:m∉ls':=fun e=>by have:=fr m e;rw [m3] at this;cases this
  have qls:q∉ls':=fun e=>by have:=fr q e;rw [q3] at this;cases this
  have xls:x∉ls':=fun e=>by have:=fr x e;rw [x3] at this;cases this
  have f0:∀ z,H3 z=none->H z=none:=fun z hz=>f1 z (f2 z (f3 z hz));refine k _ r m q D ls' _ hr0 (f1 _ hm) (f1 _ (f2 _ hq)) (f0 D hD) (fun l hl=>f0 l (fr l hl)) ⟨rm,rq,mq,zj r3 hD,zj m3 hD,zj q3 hD,rls,mls,qls,nD,nd'⟩ ((((s1.trans s2).trans s3).trans s'.but).upd (by simp)) ⟨zb,?_,?_,?_,?_,?_,zf (s'.at r3) xr,zf (s'.at m3) xm,zf (s'.at q3) xq,?_⟩
  ·simp only [jd];rfl
  ·simp only [jd];rfl
  ·simp only [jd];rfl
  ·simp only [jd];rfl
  ·simp only [jd];rfl
  ·exact ⟨zf T4.at_ Dx,T4.len,fun i l hl=>zf (T4.row i l hl) fun e=>xls (e▸List.mem_of_getElem? hl)⟩
theorem zqb (F:Fun K "shows" "Both.shows" zhk f fd) (T:Blt mg) (zxu:Ins K jm) (zpt:jb K jm "row") (zns:jb K jm "mine") (zkz:jb K jm "theirs") (zlv:jb K jm "table")
  (zfn:Cal K mg "is_row" f1 fd1 zb6) (zf3:qm P w K mg base CX0 4 f1 fd1 zb6 zg6)
  (uf:Cal K mg "stands_at" f3 fd3 yh) (ug:qm P w K mg base CX0 4 f3 fd3 yh (zbo K))
  (zli:Cal K mg "is_table" f4 fd4 zcc) (zk5:qm P w K mg base CX0 4 f4 fd4 zcc zjs):qm P w K mg base CX0 5 f fd zcl (zj5 jm):=by
 refine F.ok zkk (fun vs H Q E h=>by obtain ⟨_,_,_,_,_,_,_,_,_,_,_,_,_,_,_,_,rfl,_⟩:=h;rfl) fun cdv A outer s H vs Q E hr h=>?_;obtain ⟨x,dx,fs,r,m,q,t,ls,row,mine,theirs,tb,a,b,one,other,rfl,L,ha,hb,n0,n1,n2,n3,n4,n5,n6,k⟩:=h;obtain ⟨ob,fr,fm,fq,fb,fn,hr0,hm,hq,hT⟩:=id L;have nd:=zkk.nd;have hu:=hr.units;unfold Lf.both at k;refine ⟨_,(za (pif (PW.pt (zc6 (yj (j5 (fcl zf3 hr zfn (a1 (qg (pv 0) rfl))))) (zbd (yj (j5 (fcl ug hr uf (a3 (qg (pv 0) rfl) (pv 1) (qg (pv 0) rfl)))))))))
  (za (pif (yj (j5 (fcl ug hr uf (a3 (qg (pv 0) rfl) (pv 2) (qg (pv 0) rfl))))))
  (zp (qx (zcv (fcl zk5 hr zli (a3 (qg (pv 0) rfl) (pv 1) (pv 2))) (zd3 (ec (yp hu) (z9 z8 (ln T (qg (pv 0) rfl)) (px (px (qg (pv 0) rfl) (zdh zao zc)) (zdh zao zc))) (z9 z8 (ln T (pv 1)) (ln T (pv 2)))))))))),?_⟩
 try simp only [ck1,ck2]
 rw [show L2.start zly [V.ref x,V.ref a,V.ref b]=[some (V.ref x),some (V.ref a),some (V.ref b)] from rfl];walk_at "r";refine ⟨r,row,rfl,hr0,by lia,fun H1 s1=>?_⟩;have ob1:=s1.at ob;walk_at "r";refine ⟨r,a,m,row,one,mine,rfl,SqL.of (s1.at hr0),SqL.of (s1.at ha),s1.at hm,by lia,fun H2 s2=>?_⟩;have s02:=s1.trans s2;have ob2:=s02.at ob;clear s1 s2 ob1;walk_at "r";refine zjn (fun h1=>?_) (fun h1=>?_)
 ·walk_at "r";rw [h1,Bool.false_and,Bool.false_and,Bool.false_and] at k;exact k _ s02
 rw [h1,Bool.true_and] at k;walk_at "r";refine ⟨r,b,q,row,other,theirs,rfl,SqL.of (s02.at hr0),SqL.of (s02.at hb),s02.at hq,by lia,fun H3 s3=>?_⟩;have s03:=s02.trans s3;have ob3:=s03.at ob;clear s02 s3 ob2;walk_at "r";refine zjn (fun h3=>?_) (fun h3=>?_)
 ·walk_at "r";rw [h3,Bool.false_and,Bool.false_and] at k;exact k _ s03
 rw [h3,Bool.true_and] at k;walk_at "r";refine ⟨t,a,b,ls,tb,one,other,rfl,hT.same s03,s03.at ha,s03.at hb,n3,n4,fun H4 s4=>?_⟩;have s04:=s03.trans s4;have ob4:=s04.at ob;have hr4:=s04.at hr0;have ha4:=s04.at ha;have hb4:=s04.at hb;have T4:=hT.same s04;clear s03 s4 ob3;walk_at "r";refine zu8 (fun h4=>?_) (fun h4=>?_)
 ·have ok:=Lf.znl.mp h4;have len:=ok.len;rw [h4,Bool.true_and] at k;walk_at "r";refine zfz T4 (by lia) (fun l5 e5 hl5=>?_);have ll:(tb.getD (tb.length-1) []).length=other.length+1:=by rw [show tb.length-1=one.length by lia];exact ok.lens _ (Nat.le_refl _)
  walk_at "r";refine zhy (SqL.of hl5) (by lia) ?_;rw [show (tb.getD (tb.length-1) []).getD ((tb.getD (tb.length-1) []).length-1) 0=Lf.zqy tb from rfl];walk_at "r";exact k _ s04
 ·walk_at "r";rw [h4,Bool.false_and] at k;exact k _ s04
noncomputable abbrev zh1:=bd 41
noncomputable abbrev zl5:List Str:=["row","places","signs","many"]
noncomputable abbrev zct:List Str:=["row","places","signs","many"]
theorem zj4:z7 zl5 zct (zq zh1):=by walk_at "a"
noncomputable abbrev zlg:=bd 42
noncomputable abbrev zpn:List Str:=["one","other","first","second","table","row","mine","theirs","pair"]
noncomputable abbrev ze4:List Str:=["one","other"]
theorem zms:z7 zpn ze4 (zq zlg):=by walk_at "a"
noncomputable def zjz:Sp:=fun vs H Q _=>∃ (r p s:Addr) (row places signs:List Int) (many:Nat),vs=[.ref r,.ref p,.ref s,.int many]/\H r=some (.lst (row.map V.int))/\H p=some (.lst (places.map V.int))/\H s=some (.lst (signs.map V.int))/\r≠p/\r≠s/\p≠s/\many<=signs.length/\row.length<=5000/\signs.length<=1000/\places.length<=many /\
 ∀ H' (row' places':List Int),SameBut [r,p] H H'->H' r=some (.lst (row'.map V.int))->H' p=some (.lst (places'.map V.int))->row'.length+places.length=row.length+many->places'.length=many->Q .non H'
theorem zrd (F:Fun K "put_behind" "put_behind" zh1 f fd) (T:Blt mg):qm P w K mg base CX0 1 f fd zct zjz:=by
 refine F.ok zj4 (fun vs H Q E h=>by obtain ⟨_,_,_,_,_,_,_,rfl,_⟩:=h;rfl) fun cdv A outer s H vs Q E hr h=>?_;obtain ⟨r,p,s',row,places,signs,many,rfl,hr0,hp0,hs0,rp,rs,ps,hm,l1,l2,l3,k⟩:=h;have nd:=zj4.nd;have hu:=hr.units;refine ⟨_,(zp (zjx PassesOwn.never (tc zgu (ln T (pv 1)) (pv 3)) (za (pap (pv 0) (px (pv 2) (ln T (pv 1))))
  (zp (pap (pv 1) (z9 zak (ln T (pv 0)) zc)))))),?_⟩
 try simp only [ck1,ck2]
 rw [show L2.start zl5 [V.ref r,V.ref p,V.ref s',V.int many]=[some (V.ref r),some (V.ref p),some (V.ref s'),some (V.int many)] from rfl];refine zn7 (fun m σ H2=>∃ row2 places2:List Int,σ=[some (.ref r),some (.ref p),some (.ref s'),some (.int many)]/\SameBut [r,p] H H2/\H2 s'=some (.lst (signs.map V.int))/\H2 r=some (.lst (row2.map V.int))/\H2 p=some (.lst (places2.map V.int))/\row2.length+places.length=row.length+places2.length/\places2.length+m=many) (many-places.length) ⟨row,places,rfl,fun b o h _=>h,hs0,hr0,hp0,rfl,by lia⟩ ?_;rintro m σ H2 ⟨row2,places2,rfl,s2,hs2,hr2,hp2,e1,e2⟩;walk_at "r";refine zaq (fun h1=>?_) (fun h1=>?_)
 ·refine zsc ?_;walk_at "r";refine zah (SqL.of hs2) (by lia) (by lia) ?_;walk_at "r";refine zda hr2 (by lia) ?_;have hp3:=zf (o:=.lst ((row2++[signs.getD ((places2.length:Int)).toNat 0]).map V.int)) hp2 (Ne.symm rp);walk_at "r";refine zda hp3 (by lia) ?_;walk_at "r";exact ⟨m-1,by lia,_,_,rfl,(s2.upd (by simp)).upd (by simp),zf (zf hs2 (Ne.symm rs)) (Ne.symm ps),zf zb rp,zb,by rw [List.length_append,List.length_append,List.length_singleton,List.length_singleton];lia,by rw [List.length_append,List.length_singleton];lia⟩
 ·walk_at "r";exact k _ row2 places2 s2 hr2 hp2 (by lia) (by lia)
theorem ztc (F:Fun K "shortest" "shortest" zlg f fd) (T:Blt mg)
  (je:Cal K mg "checked_row" f1 fd1 jq) (jf:qm P w K mg base CX0 3 f1 fd1 jq zan)
  (zft:Cal K mg "least_table" f2 fd2 zaa) (zfv:qm P w K mg base CX0 4 f2 fd2 zaa (zex K))
  (zga:Cal K mg "alike_pairs" f3 fd3 uv) (zfl:qm P w K mg base CX0 4 f3 fd3 uv zez)
  (zeh:Cal K mg "put_behind" f5 fd5 zct) (zei:qm P w K mg base CX0 4 f5 fd5 zct zjz)
  (zwu:Mak K mg "Both" jm f4 fd4 vy) (zdr:qm P w K mg base CX0 1 f4 fd4 vy (zqh jm))
  : qm P w K mg base CX0 5 f fd ze4 (zn4 jm):=by
 refine F.ok zms (fun vs H Q E h=>by obtain ⟨_,_,_,_,rfl,_⟩:=h;rfl) fun cdv A outer s H vs Q E hr h=>?_;obtain ⟨a,b,one,other,rfl,ha,hb,l1,l2,k⟩:=h;have nd:=zms.nd;have hu:=hr.units;refine ⟨_,(za (sv 2 nd (fcl jf hr je (a1 (pv 0))))
  (za (sv 3 nd (fcl jf hr je (a1 (pv 1))))
  (za (sv 4 nd (fcl zfv hr zft (a2 (pv 2) (pv 3))))
  (za (sv 5 nd (zr qu))
  (za (sv 6 nd (zr qu))
  (za (sv 7 nd (zr qu))
  (za (vq PassesOwn.never rfl (qb (fcl zfl hr zga (a3 (pv 4) (pv 2) (pv 3)))) (gv 8 nd) (za (zgz (fcl zei hr zeh (zm (pv 5) (zm (pv 7) (zm (pv 3) (zm (px (pv 8) zc) qu))))))
  (za (zgz (fcl zei hr zeh (zm (pv 5) (zm (pv 6) (zm (pv 2) (zm (z9 z8 (px (pv 8) zc) zc) qu))))))
  (zp (pap (pv 7) (px (pv 6) (zdh zao zc)))))))
  (za (zgz (fcl zei hr zeh (zm (pv 5) (zm (pv 6) (zm (pv 2) (zm (ln T (pv 2)) qu))))))
  (za (zgz (fcl zei hr zeh (zm (pv 5) (zm (pv 7) (zm (pv 3) (zm (ln T (pv 3)) qu))))))
  (zp (qx (fmk zwu zdr hr (zm (pv 5) (zm (pv 6) (zm (pv 7) (zm (pv 4) qu)))))))))))))))),?_⟩
 try simp only [ck1,ck2]
 rw [show L2.start zpn [V.ref a,V.ref b]=[some (V.ref a),some (V.ref b),none,none,none,none,none,none,none] from rfl];walk_at "r";refine ⟨a,one,rfl,ha,by lia,fun a2 H1 ha2 s1 h1=>?_⟩;walk_at "r";refine ⟨b,other,rfl,s1.at hb,by lia,fun b2 H2 hb2 s2 h2=>?_⟩;have h12:=s2.at h1;have a2b2:a2≠b2:=zj h1 hb2;walk_at "r";refine ⟨a2,b2,one,other,rfl,SqL.of h12,SqL.of h2,l1,l2,fun t ls tb H3 ht fr ndl tls s3 hT L=>?_⟩;have s03:Same H H3:=(s1.trans s2).trans s3;have a3:=s3.at h12;have b3:=s3.at h2;have a20:H a2=none:=ha2;have b20:H b2=none:=s1.free hb2;have t0:H t=none:=(s1.trans s2).free ht;have fr0:∀ l∈ls,H l=none:=fun l hl=>(s1.trans s2).free (fr l hl);have lens:=L.len;clear s1 s2 s3 h12 h1 h2 ht fr ha2 hb2;walk_at "r";intro r hr3;have H4s:=Same.upd_new (o:=.lst []) hr3;walk_at "r";intro m hm;walk_at "r";intro q hq;have rm:r≠m:=zj zb hm;have rq:r≠q:=zj (zu zb hm) hq;have mq:m≠q:=zj zb hq;have s36:Same H3 (upd (upd (upd H3 r (.lst [])) m (.lst [])) q (.lst [])):=((Same.upd_new hr3).trans (Same.upd_new hm)).trans (Same.upd_new hq);have r6:(upd (upd (upd H3 r (.lst [])) m (.lst [])) q (.lst [])) r=some (.lst (([]:List Int).map V.int)):=zu (zu zb hm) hq;have m6:(upd (upd (upd H3 r (.lst [])) m (.lst [])) q (.lst [])) m=some (.lst (([]:List Int).map V.int)):=zu zb hq;have q6:(upd (upd (upd H3 r (.lst [])) m (.lst [])) q (.lst [])) q=some (.lst (([]:List Int).map V.int)):=zb;simp only [List.map_nil];rw [List.map_nil] at r6 m6 q6;generalize (upd (upd (upd H3 r (.lst [])) m (.lst [])) q (.lst []))=H6 at s36 r6 m6 q6 ⊢;rw [show HO.lst []=.lst (([]:List Int).map V.int) from rfl] at r6 m6 q6;have r0:H r=none:=s03.free hr3;have m0:H m=none:=s03.free (zy hm);have q0:H q=none:=s03.free (zy (zy hq));have ne3:∀ {c o},H3 c=some o->c≠r/\c≠m/\c≠q:=fun {c o} hc=>⟨zj hc hr3,zj hc (zy hm),zj hc (zy (zy hq))⟩
 have na:=ne3 a3;have nb:=ne3 b3;have nt:=ne3 hT.at_;have nl:∀ l∈ls,l≠r/\l≠m/\l≠q:=fun l hl=>by
  obtain ⟨n,hn⟩:=List.getElem?_of_mem hl;exact ne3 (hT.row n l hn)
 have a6:=s36.at a3;have b6:=s36.at b3;have T6:=hT.same s36;have s06:=s03.trans s36;clear s03 s36 hr3 hm hq a3 b3 hT H4s ne3;walk_at "r";refine ⟨t,a2,b2,ls,tb,one,other,rfl,a6,b6,T6,L,l1,l2,fun p ts ps H7 hp s7 hP A=>?_⟩;have s07:=s06.trans s7;have T7:=T6.same s7;have a7:=s7.at a6;have b7:=s7.at b6;have r7:=s7.at r6;have m7:=s7.at m6;have q7:=s7.at q6;have np:p≠r/\p≠m/\p≠q:=⟨Ne.symm (zj r6 hp),Ne.symm (zj m6 hp),Ne.symm (zj q6 hp)⟩
 clear s06 s7 T6 a6 b6 r6 m6 q6;have lps:ps.length<=1000:=by
  have:=Lf.zle _ _ _ A.mine;rw [List.length_map] at this;lia
 have tsn:∀ c∈ts,c≠r/\c≠m/\c≠q:=fun c hc=>by
  obtain ⟨n,hn⟩:=List.getElem?_of_mem hc;have:=hP.row n c hn;exact ⟨fun e=>(by rw [e,r7] at this;cases this),fun e=>(by rw [e,m7] at this;cases this),fun e=>(by rw [e,q7] at this;cases this)⟩
 have pa:=hP.at_;walk_at "r";refine vf (znu hP.len) (fun i σ H8=>∃ (row mine theirs:List Int) (v8:Option V),σ=[some (.ref a),some (.ref b),some (.ref a2),some (.ref b2),some (.ref t),some (.ref r),some (.ref m),some (.ref q),v8]/\SameBut [r,m,q] H7 H8/\H8 r=some (.lst (row.map V.int))/\H8 m=some (.lst (mine.map V.int))/\H8 q=some (.lst (theirs.map V.int))/\row.length<=mine.length+theirs.length/\mine.length<=one.length/\theirs.length<=other.length/\Lf.AP one other ((mine.length:Int)-1) ((theirs.length:Int)-1) (ps.drop i)) ?_ ?_ ?_ ?_
 ·exact ⟨[],[],[],_,rfl,fun _ _ h _=>h,r7,m7,q7,Nat.le_refl _,Nat.zero_le _,Nat.zero_le _,A⟩
 ·rintro i σ H8 _ ⟨_,_,_,_,_,s8,_⟩;exact ⟨s8.at hP.at_ (by simpa using np),hP.len,fun i l hl=>s8.at (hP.row i l hl) (by simpa using tsn l (List.mem_of_getElem? hl))⟩
 ·rintro i ⟨u,v⟩ x' σ H8 H9 hy ⟨row,mine,theirs,v8,rfl,s8,r8,m8,q8,sl,lm,ln,A8⟩ ⟨rfl,rfl,hu'⟩;obtain ⟨hi,ez⟩:=List.getElem?_eq_some_iff.mp hy;rw [List.length_zip] at hi;have ips:i<ps.length:=by lia
  rw [List.getElem_zip] at ez;have ev:ps[i]=v:=congrArg Prod.snd ez;obtain ⟨v1,v2⟩:=v;rw [List.drop_eq_getElem_cons ips,ev] at A8;obtain ⟨q1,q2,q3⟩:=A8;rw [List.map_cons,Lf.rising] at q1 q2;simp only [Bool.and_eq_true,decide_eq_true_eq] at q1 q2;obtain ⟨vi,rfl⟩:∃ n:Nat,v1=n:=⟨v1.toNat,by lia⟩
  obtain ⟨vj,rfl⟩:∃ n:Nat,v2=n:=⟨v2.toNat,by lia⟩
  have b8:=s8.at b7 (by simpa using nb);have a8:=s8.at a7 (by simpa using na);simp only at hu'
  walk_at "r";refine zlh hu' rfl ?_;walk_at "r";refine ⟨r,q,b2,row,theirs,other,vj,rfl,r8,q8,b8,rq,Ne.symm nb.1,Ne.symm nb.2.2,by lia,by lia,by lia,by lia,fun H10 row2 theirs2 s10 r10 q10 n1 n2=>?_⟩;have m10:=s10.at m8 (by simpa using ⟨Ne.symm rm,mq⟩);have a10:=s10.at a8 (by simpa using ⟨na.1,na.2.2⟩);have u10:=s10.at hu' (by
   have:=tsn u (by
    have h':ts[i]=u:=congrArg Prod.fst ez
    rw [<- h'];exact List.getElem_mem _)
   simpa using ⟨this.1,this.2.2⟩)
  walk_at "r";refine zlh u10 rfl ?_;walk_at "r";refine ⟨r,m,a2,_,mine,one,vi+1,rfl,r10,m10,a10,rm,Ne.symm na.1,Ne.symm na.2.1,by lia,by lia,by lia,by lia,fun H11 row3 mine3 s11 r11 m11 n3 n4=>?_⟩;have q11:=s11.at q10 (by simpa using ⟨Ne.symm rq,Ne.symm mq⟩);walk_at "r";refine zhy (SqL.of m11) (by lia) ?_;walk_at "r";refine zda q11 (by lia) ?_;walk_at "r";have n5:=List.length_append (as:=theirs2) (bs:=[mine3.getD (mine3.length-1) 0]);rw [List.length_singleton] at n5;refine ⟨_,_,_,_,rfl,?_,zf r11 rq,zf m11 mq,zb,by lia,by lia,by lia,?_⟩
  ·intro c o hc hn;have hn':¬ c=r/\¬ c=m/\¬ c=q:=by simpa using hn
   exact zf (s11 c o (s10 c o (s8 c o hc hn) (by simpa using ⟨hn'.1,hn'.2.2⟩)) (by simpa using ⟨hn'.1,hn'.2.1⟩)) hn'.2.2
  ·refine ⟨?_,?_,fun p hp=>q3 p (List.mem_cons_of_mem _ hp)⟩
   ·have:(mine3.length:Int)-1=(vi:Int):=by lia
    rw [this];exact q1.2
   ·have:((theirs2++[mine3.getD (mine3.length-1) 0]).length:Int)-1=(vj:Int):=by lia
    rw [this];exact q2.2
 ·rintro σ H8 ⟨row,mine,theirs,v8,rfl,s8,r8,m8,q8,sl,lm,ln,A8⟩;have b8:=s8.at b7 (by simpa using nb);have a8:=s8.at a7 (by simpa using na);walk_at "r";refine ⟨r,m,a2,row,mine,one,one.length,rfl,r8,m8,a8,rm,Ne.symm na.1,Ne.symm na.2.1,by lia,by lia,by lia,by lia,fun H10 row2 mine2 s10 r10 m10 n1 n2=>?_⟩;have q10:=s10.at q8 (by simpa using ⟨Ne.symm rq,Ne.symm mq⟩);have b10:=s10.at b8 (by simpa using ⟨nb.1,nb.2.1⟩);walk_at "r";refine ⟨r,q,b2,_,theirs,other,other.length,rfl,r10,q10,b10,rq,Ne.symm nb.1,Ne.symm nb.2.2,by lia,by lia,by lia,by lia,fun H11 row3 theirs3 s11 r11 q11 n3 n4=>?_⟩;have m11:=s11.at m10 (by simpa using ⟨Ne.symm rm,mq⟩);have s711:SameBut [r,m,q] H7 H11:=fun c o hc hn=>by
   have hn':¬ c=r/\¬ c=m/\¬ c=q:=by simpa using hn
   exact s11 c o (s10 c o (s8 c o hc hn) (by simpa using ⟨hn'.1,hn'.2.1⟩)) (by simpa using ⟨hn'.1,hn'.2.2⟩)
  have T11:Tab H11 t ls tb:=⟨s711.at T7.at_ (by simpa using nt),T7.len,fun i l hl=>s711.at (T7.row i l hl) (by simpa using nl l (List.mem_of_getElem? hl))⟩
  have s011:Same H H11:=fun c o hc=>s711 c o (s07 c o hc) (by simpa using ⟨zj hc r0,zj hc m0,zj hc q0⟩);clear s10 s11 r10 m10 q10 b10 r8 m8 q8 a8 b8 s8 A8 s711 T7 r7 m7 q7 a7 b7 hP pa s07;walk_at "r";intro x dx hx hdx xdx;have hD6:∀ {c o},H11 c=some o->(upd (upd H11 dx (.own x)) x (.ins jm dx [])) c=some o:=fun {c o} hc=>zf (zu hc hdx) (zj hc hx);refine ⟨x,dx,r,m,q,t,ls,_,_,_,tb,rfl,zb,hD6 r11,hD6 m11,hD6 q11,⟨hD6 T11.at_,T11.len,fun i l hl=>hD6 (T11.row i l hl)⟩,by lia,fun fs r' m' q' t' ls' H12 hr' hm' hq' ht' fr' ap s12 BA=>⟨rfl,?_⟩⟩;have f0:∀ c,(upd (upd H11 dx (.own x)) x (.ins jm dx [])) c=none->H c=none:=fun c hc=>s011.free (zy (zy hc));refine k x dx fs r' m' q' t' ls' _ _ _ tb H12 (s011.free hx) (f0 _ hr') (f0 _ hm') (f0 _ hq') (f0 _ ht') (fun l hl=>f0 l (fr' l hl)) ap ?_ BA n2 n4 (by lia) lens (fun i hi=>L.lens i (by lia));intro c o hc;exact s12 c o (hD6 (s011 _ _ hc)) (by simpa using zj hc (s011.free hx))
noncomputable abbrev yw:=bd 28
noncomputable abbrev uq:List Str:=["signs","kinds"]
noncomputable abbrev zav:List Str:=["signs","kinds"]
theorem zgo:z7 uq zav (zq yw):=by walk_at "a"
noncomputable abbrev zk4:=bd 29
noncomputable abbrev zpu:List Str:=["cuts","row","kinds"]
noncomputable abbrev zfe:List Str:=["cuts","row","kinds"]
theorem znn:z7 zpu zfe (zq zk4):=by walk_at "a"
noncomputable abbrev zci:=bd 43
noncomputable abbrev zi7:List Str:=["seen","kind"]
noncomputable abbrev zbi:List Str:=["seen"]
theorem zhh:z7 zi7 zbi (zq zci):=by walk_at "a"
noncomputable abbrev zku:=bd 44
noncomputable abbrev zs4:List Str:=["row","kinds","signs","cuts","word","seen","place","sign"]
noncomputable abbrev zhu:List Str:=["row","kinds"]
theorem zpw:z7 zs4 zhu (zq zku):=by walk_at "a"
noncomputable abbrev zb0:=bc 35 0
noncomputable abbrev zeq:List Str:=["self","cuts","word"]
noncomputable abbrev ji:List Str:=["self","cuts","word"]
theorem zdq:z7 zeq ji (zq zb0):=by walk_at "a"
noncomputable abbrev zdz:=bc 35 1
noncomputable abbrev zhg:List Str:=["self","row","kinds"]
noncomputable abbrev vh:List Str:=["self","row","kinds"]
theorem zgr:z7 zhg vh (zq zdz):=by walk_at "a"
structure zvo (C:Addr) (H:Hp) (x dx:Addr) (fs:List (Str×V)) (c q:Addr) (cuts word:List Int):Prop where
 ob:H x=some (.ins C dx fs)
 fc:fs.lookup ("cuts":Str)=some (.ref c)
 fw:fs.lookup ("word":Str)=some (.ref q)
 fn:fs.lookup ("shows":Str)=none
 hc:H c=some (.lst (cuts.map V.int))
 hq:H q=some (.lst (word.map V.int))
theorem zvo.same {C:Addr}{H H':Hp}{x dx:Addr}{fs:List (Str×V)}{c q:Addr}{cuts word:List Int} (L:zvo C H x dx fs c q cuts word) (s:Same H H'):zvo C H' x dx fs c q cuts word:=⟨s.at L.ob,L.fc,L.fw,L.fn,s.at L.hc,s.at L.hq⟩
noncomputable def zgj (K:PySem.W.Frag):Sp:=fun vs H Q _=>∃ (a:Addr) (l:List Int) (kinds:Int),vs=[.ref a,.int kinds]/\SqL K H a (l.map V.int)/\l.length<=4000/\∀ H',Same H H'->Q (.bl (decide ((Lf.zc5 kinds l:Int)=kinds))) H'
theorem zmj (F:Fun K "has_all_kinds" "has_all_kinds" yw f fd) (T:Blt mg) (zbp:Cal K mg "is_count" f1 fd1 uh) (zbq:qm P w K mg base CX0 2 f1 fd1 uh zd4):qm P w K mg base CX0 3 f fd zav (zgj K):=by
 refine F.ok zgo (fun vs H Q E h=>by obtain ⟨_,_,_,rfl,_⟩:=h;rfl) fun cdv A outer s H vs Q E hr h=>?_;obtain ⟨a,l,kinds,rfl,ha,hn,k⟩:=h;have nd:=zgo.nd;have hu:=hr.units;refine ⟨_,(zp (qx (ec (yp hu) (jk zxo rfl T.no_len boot_len (a1 (ze9 (zse rfl) rfl T.no_set boot_set (a1 (zlb (N:=["sign","kinds"]) (k:=1) (caps:=[1]) (Block.of (by kernel_rfl)) rfl (qb (pv 0)) (fun _ _ _ _=>⟨_,(gv 0 (by show List.Nodup (["sign","kinds"]:List Str);decide)),by walk_at "c"⟩) (fun _ _ _ _=>⟨_,(zth.one (j5 (fcl zbq hr zbp (a2 (pv 0) (z9 zak (pv 1) zc))))),by walk_at "c"⟩) (fun _ _ _ _=>⟨_,(pv 0),by walk_at "c"⟩)))))) (pv 1)))),?_⟩;try simp only [ck1,ck2]
 try simp only [show (zuj CX0 P w K mg base uq "has_all_kinds" (zq yw) f cdv A outer s H E).nox.prog=P from rfl,show (zuj CX0 P w K mg base uq "has_all_kinds" (zq yw) f cdv A outer s H E).prog=P from rfl,show (zuj CX0 P w K mg base uq "has_all_kinds" (zq yw) f cdv A outer s H E).nox.w=w from rfl,show (zuj CX0 P w K mg base uq "has_all_kinds" (zq yw) f cdv A outer s H E).w=w from rfl]
 rw [show L2.start uq [V.ref a,V.int kinds]=[some (V.ref a),some (V.int kinds)] from rfl];walk_at "r";refine zfb (wz (ns:=l)) (Lf.uo kinds) (fun y=>y) (fun H' s'=>s'.seq ha) (by lia) ?_ ?_
 ·rintro i z x H3 H4 R R' hi s3 ⟨rfl,rfl⟩ h1 h2;walk_at "r";refine ⟨⟨rfl,rfl⟩,?_⟩;walk_at "r";refine ⟨z,_,rfl,?_⟩;have e:decide (0<=z/\z<=kinds-1)=Lf.uo kinds z:=by
   unfold Lf.uo;by_cases q:0<=z/\z<kinds
   ·rw [decide_eq_true q,decide_eq_true ⟨q.1,by lia⟩]
   ·rw [decide_eq_false q,decide_eq_false fun u=>q ⟨u.1,by lia⟩]
  rw [e];walk_at "r";refine zu8 (fun h5=>?_) (fun h5=>?_)
  ·walk_at "r";exact h1 h5 _ (Same.refl _)
  ·exact h2 h5 _ (Same.refl _)
 ·intro D H1 hD s1 hd;walk_at "r";have el:(l.filter (Lf.uo kinds)).map (fun y=>y)=l.filter (Lf.uo kinds):=by simp
  rw [el] at hd;refine z1s (SqL.of hd) (by have:=List.length_filter_le (Lf.uo kinds) l;lia) fun d hd0=>?_;walk_at "r";refine z4j zb ?_;walk_at "r";exact k _ (s1.trans (Same.upd_new hd0))
noncomputable def zne:Sp:=fun vs H Q _=>∃ (c a:Addr) (cuts row:List Int) (kinds:Int),vs=[.ref c,.ref a,.int kinds]/\H c=some (.lst (cuts.map V.int))/\H a=some (.lst (row.map V.int))/\cuts.length<=1000/\row.length<=1000/\1<=kinds/\∀ H',Same H H'->Q (.bl (Lf.zih row kinds 0 cuts)) H'
theorem zt8 (F:Fun K "are_cuts" "are_cuts" zk4 f fd) (T:Blt mg) (zcw:Cal K mg "are_places" f1 fd1 kj) (zcr:qm P w K mg base CX0 3 f1 fd1 kj zdk)
  (znp:Cal K mg "has_all_kinds" f2 fd2 zav) (zno:qm P w K mg base CX0 3 f2 fd2 zav (zgj K)):qm P w K mg base CX0 4 f fd zfe zne:=by
 refine F.ok znn (fun vs H Q E h=>by obtain ⟨_,_,_,_,_,rfl,_⟩:=h;rfl) fun cdv A outer s H vs Q E hr h=>?_;obtain ⟨c,a,cuts,row,kinds,rfl,hc,ha,l1,l2,hk,k⟩:=h;have nd:=znn.nd;have hu:=hr.units;rw [<- Lf.zr9 hk cuts (-1) 0 (by lia) (by lia)] at k;refine ⟨_,(za (pif (yj (j5 (fcl zcr hr zcw (a2 (pv 0) (z9 z8 (ln T (pv 1)) zc))))))
  (zp (qx (jk (zbx rfl) rfl T.no_all boot_all (a1 (zlb (N:=["start","end","kinds","row"]) (k:=2) (caps:=[2,1]) (Block.of (by kernel_rfl)) rfl (zzm rfl T.no_zip boot_zip (a2 (z9 z8 (zr (a1 zc)) (pv 0)) (pv 0))) (fun _ _ _ _=>⟨_,(zel (n:=2) rfl (jj (gv 0 (by show List.Nodup (["start","end","kinds","row"]:List Str);decide)) (jj (gv 1 (by show List.Nodup (["start","end","kinds","row"]:List Str);decide)) zb2))),by walk_at "c"⟩) (fun _ _ _ _=>⟨_,zth.none,by walk_at "c"⟩) (fun _ _ _ _=>⟨_,(fcl zno hr znp (a2 (ju yo (pv 3) (j4 (pv 0)) (j4 (pv 1))) (pv 2))),by walk_at "c"⟩))))))),?_⟩
 try simp only [ck1,ck2]
 rw [show L2.start zpu [V.ref c,V.ref a,V.int kinds]=[some (V.ref c),some (V.ref a),some (V.int kinds)] from rfl];walk_at "r";refine ⟨c,cuts,_,rfl,hc,by lia,fun H1 s1=>?_⟩;have hc1:=s1.at hc;have ha1:=s1.at ha;walk_at "r";refine zjn (fun h1=>?_) (fun h1=>?_)
 ·walk_at "r";rw [h1,Bool.false_and] at k;exact k _ s1
 rw [h1,Bool.true_and] at k;walk_at "r";intro z hz;walk_at "r";refine zi1 (xs:=[0]) zb (zu hc1 hz) (by simp;lia) ?_;intro b hb;have s2:Same H1 (upd (upd H1 z (.lst (([0]:List Int).map V.int))) b (.lst (([0]++cuts).map V.int))):=(Same.upd_new hz).trans (Same.upd_new hb);have hb2:(upd (upd H1 z (.lst (([0]:List Int).map V.int))) b (.lst (([0]++cuts).map V.int))) b=some (.lst ((0::cuts).map V.int)):=zb;generalize upd (upd H1 z (.lst (([0]:List Int).map V.int))) b (.lst (([0]++cuts).map V.int))=H2 at s2 hb2 ⊢;have hc2:=s2.at hc1;have ha2:=s2.at ha1;walk_at "r";refine comp_map (zt4 (xs:=0::cuts) (ys:=cuts)) (fun y=>.bl (decide ((Lf.zc5 kinds (Lf.cut row y.1 y.2):Int)=kinds))) (fun H' s'=>⟨SqL.of (s'.at hb2),SqL.of (s'.at hc2)⟩) (by rw [List.length_zip];simp;lia) ?_ ?_
 ·rintro i ⟨p,q⟩ x H3 H4 R R' hi s3 ⟨T',hT,rfl,rfl⟩ h3;have hm:=List.of_mem_zip (List.mem_of_getElem? hi);have hq0:0<=q:=by have:=Lf.ze8 cuts _ _ h1 q hm.2;lia
  have hp0:0<=p:=by
   rcases List.mem_cons.mp hm.1 with z|z
   ·lia
   ·have:=Lf.ze8 cuts _ _ h1 p z;lia
  have ha4:=zu (o:=.tup [.int p,.int q]) (s3.at ha2) hT;have ht4:(upd H3 T' (.tup [.int p,.int q])) T'=some (.tup [.int p,.int q]):=zb;have s34:Same H3 (upd H3 T' (.tup [.int p,.int q])):=Same.upd_new hT;simp only at ha4 ht4 s34 ⊢
  generalize upd H3 T' (.tup [.int p,.int q])=H4 at ha4 ht4 s34 ⊢;walk_at "r";refine ⟨⟨rfl,rfl⟩,?_⟩;walk_at "r";rw [if_pos trivial];walk_at "r";intro u hu';have cl:(Lf.cut row p q).length<=row.length:=by unfold Lf.cut;rw [List.length_take,List.length_drop];lia
  walk_at "r";refine ⟨u,_,kinds,rfl,SqL.of zb,by lia,fun H5 s5=>?_⟩;exact h3 _ ((s34.trans (Same.upd_new hu')).trans s5)
 ·intro D H3 hD s3 hd;walk_at "r";refine zoy (l:=(0::cuts).zip cuts) (g:=fun y=>decide ((Lf.zc5 kinds (Lf.cut row y.1 y.2):Int)=kinds)) (SqL.of hd) ?_;exact k _ ((s1.trans s2).trans s3)
noncomputable def zha:Sp:=fun vs H Q _=>∃ (d:Addr) (kvs:List (Key×V)) (seen:List Int),vs=[.ref d]/\H d=some (.dK kvs)/\seen.Nodup/\(∀ y,(zbr kvs (.inl y)).isSome=decide (y∈seen))/\∀ k:Nat,(k:Int)∉seen->k<=seen.length->Q (.int k) H
theorem zm3 (F:Fun K "least_unseen" "least_unseen" zci f fd) (T:Blt mg):qm P w K mg base CX0 1 f fd zbi zha:=by
 refine F.ok zhh (fun vs H Q E h=>by obtain ⟨_,_,_,rfl,_⟩:=h;rfl) fun cdv A outer s H vs Q E hr h=>?_;obtain ⟨d,kvs,seen,rfl,hd,hnd,hv,k⟩:=h;have nd:=zhh.nd;have hu:=hr.units;have hu1:(A.deeper (envOfC "least_unseen" (zq zci) s.heap.objs.size f cdv)).units+1<cLine:=by lia
 refine ⟨_,(za (sv 1 nd zc)
  (za (zjx PassesOwn.never (zl8 (zur hu1 (pv 1) (pv 0)) (by with_unfolding_all rfl)) (zp (zoz (i:=1) nd rfl (by first|exact Or.inl rfl|exact Or.inr rfl) zc z19)))
  (zp (qx (pv 1))))),?_⟩
 try simp only [ck1,ck2]
 rw [show L2.start zi7 [V.ref d]=[some (V.ref d),none] from rfl];walk_at "r";refine zn7 (fun m σ H2=>∃ j:Nat,σ=[some (.ref d),some (.int j)]/\H2=H/\(∀ i:Nat,i<j->(i:Int)∈seen)/\m=seen.length-j) _ ⟨0,rfl,rfl,fun i hi=>by lia,rfl⟩ ?_;rintro m σ H2 ⟨j,rfl,rfl,hj,rfl⟩;have hle:=Lf.zpf hnd hj;walk_at "r";refine z1o hd ?_;rw [if_neg Bool.false_ne_true,hv];walk_at "r";refine zaq (fun h1=>?_) (fun h1=>?_)
 ·have hj':∀ i:Nat,i<j+1->(i:Int)∈seen:=fun i hi=>by
   by_cases e:i=j
   ·rw [e];exact h1
   ·exact hj i (by lia)
  have hle':=Lf.zpf hnd hj';refine zsc ?_;walk_at "r";have e1:((j:Int)+1)=((j+1:Nat):Int):=by lia
  rw [e1];exact ⟨_,by lia,j+1,rfl,rfl,hj',rfl⟩
 ·walk_at "r";exact k j h1 hle
noncomputable def zmq (C:Addr):Sp:=fun vs H Q _=>∃ (x dx a b:Addr) (cs ws:List Int),vs=[.ref x,.ref a,.ref b]/\H x=some (.ins C dx [])/\H a=some (.lst (cs.map V.int))/\H b=some (.lst (ws.map V.int))/\∀ (fs:List (Str×V)) (c q:Addr) H',H c=none->H q=none->c≠q->SameBut [x] H H'->zvo C H' x dx fs c q cs ws->Q .non H'
theorem zjd (F:Fun K "__init__" "Missing.__init__" zb0 f fd) (T:Blt mg) (zdy:Ins K jc) (zio:jb K jc "cuts") (zit:jb K jc "word"):qm P w K mg base CX0 1 f fd ji (zmq jc):=by
 refine F.ok zdq (fun vs H Q E h=>by obtain ⟨_,_,_,_,_,_,rfl,_⟩:=h;rfl) fun cdv A outer s H vs Q E hr h=>?_;obtain ⟨x,dx,a,b,cs,ws,rfl,hx,ha,hb,k⟩:=h;have nd:=zdq.nd;have hu:=hr.units;have ax:a≠x:=fun e=>by rw [e,hx] at ha;cases ha
 have bx:b≠x:=fun e=>by rw [e,hx] at hb;cases hb
 refine ⟨_,(za (ze7 (pv 0) (lo T (pv 1)) rfl)
  (zp (ze7 (pv 0) (lo T (pv 2)) rfl))),?_⟩
 try simp only [ck1,ck2]
 rw [show L2.start zeq [V.ref x,V.ref a,V.ref b]=[some (V.ref x),some (V.ref a),some (V.ref b)] from rfl];walk_at "r";intro c hc;have xc:c≠x:=Ne.symm (zj hx hc);walk_at "r";intro q hq;have xq:q≠x:=zuk hq;have cq:c≠q:=zj (zf zb xc) hq;walk_at "r";exact k _ c q _ hc (zy (zy hq)) cq (((((Same.upd_new hc).but (ls:=[x])).upd (by simp)).new hq).upd (by simp)) ⟨zb,by simp only [jd];rfl,by simp only [jd];rfl,by simp only [jd];rfl,zf (zu (zf zb xc) hq) xc,zf zb xq⟩
noncomputable def zc4 (C:Addr):Sp:=fun vs H Q _=>∃ (x dx:Addr) (fs:List (Str×V)) (c q:Addr) (cuts word:List Int) (a:Addr) (row:List Int) (kinds:Int),vs=[.ref x,.ref a,.int kinds]/\zvo C H x dx fs c q cuts word/\H a=some (.lst (row.map V.int))/\cuts.length<=1000/\word.length<=1000/\row.length<=1000/\1<=kinds/\∀ H',Same H H'->Q (.bl (Lf.missed row kinds cuts word)) H'
theorem zmd (F:Fun K "shows" "Missing.shows" zdz f fd) (T:Blt mg) (zdy:Ins K jc) (zio:jb K jc "cuts") (zit:jb K jc "word")
  (zbp:Cal K mg "is_count" f1 fd1 uh) (zbq:qm P w K mg base CX0 2 f1 fd1 uh zd4)
  (zv4:Cal K mg "are_cuts" f2 fd2 zfe) (zv9:qm P w K mg base CX0 4 f2 fd2 zfe zne)
  (zzg:Cal K mg "is_left" f3 fd3 zgw) (zxd:qm P w K mg base CX0 2 f3 fd3 zgw (zpq K)):qm P w K mg base CX0 5 f fd vh (zc4 jc):=by
 refine F.ok zgr (fun vs H Q E h=>by obtain ⟨_,_,_,_,_,_,_,_,_,_,rfl,_⟩:=h;rfl) fun cdv A outer s H vs Q E hr h=>?_;obtain ⟨x,dx,fs,c,q,cuts,word,a,row,kinds,rfl,M,ha,n1,n2,n3,hk,k⟩:=h;obtain ⟨ob,fc,fw,fn,hc,hq⟩:=id M;have nd:=zgr.nd;have hu:=hr.units;rw [Lf.zhl] at k;refine ⟨_,(za (pif (PW.pt (zc6 (yj (j5 (jk (zbx rfl) rfl T.no_all boot_all (a1 (pcm (N:=["sign","kinds"]) (caps:=[2]) (qb (qg (pv 0) rfl)) (fun _ _ _ _=>⟨_,(fcl zbq hr zbp (a2 (pv 0) (z9 zak (pv 1) zc))),by walk_at "c"⟩)))))) (zbd (tc (za8 hu) (ln T (qg (pv 0) rfl)) (z9 z8 (ln T (qg (pv 0) rfl)) zc))))))
  (zp (qx (zcv (fcl zv9 hr zv4 (a3 (qg (pv 0) rfl) (pv 1) (pv 2))) (zd3 (zu5 (fcl zxd hr zzg (a2 (pv 1) (qg (pv 0) rfl))))))))),?_⟩
 try simp only [ck1,ck2]
 rw [show L2.start zhg [V.ref x,V.ref a,V.int kinds]=[some (V.ref x),some (V.ref a),some (V.int kinds)] from rfl];walk_at "r";refine comp_map (wz (ns:=word)) (fun y=>.bl (Lf.uo kinds y)) (fun H' s'=>SqL.of (s'.at hq)) (by lia) ?_ ?_
 ·rintro i z x' H3 H4 R R' hi s3 ⟨rfl,rfl⟩ h1;walk_at "r";refine ⟨⟨rfl,rfl⟩,?_⟩;walk_at "r";refine ⟨z,_,rfl,?_⟩;have e:decide (0<=z/\z<=kinds-1)=Lf.uo kinds z:=by
   unfold Lf.uo;by_cases q:0<=z/\z<kinds
   ·rw [decide_eq_true q,decide_eq_true ⟨q.1,by lia⟩]
   ·rw [decide_eq_false q,decide_eq_false fun u=>q ⟨u.1,by lia⟩]
  rw [e];exact h1 _ (Same.refl _)
 intro D H1 hD s1 hd;have ob1:=s1.at ob;have hq1:=s1.at hq;have hc1:=s1.at hc;walk_at "r";refine zoy (l:=word) (g:=fun y=>Lf.uo kinds y) (SqL.of hd) ?_;walk_at "r";refine zjn (fun h1=>?_) (fun h1=>?_)
 ·walk_at "r";rw [h1,Bool.false_and,Bool.false_and] at k;exact k _ s1
 rw [h1,Bool.true_and] at k;walk_at "r";refine zdj (fun h2=>?_) (fun h2=>?_)
 ·walk_at "r";rw [decide_eq_false (fun z=>h2 (by lia)),Bool.false_and] at k;exact k _ s1
 rw [decide_eq_true (by lia),Bool.true_and] at k;walk_at "r";refine ⟨c,a,cuts,row,kinds,rfl,hc1,s1.at ha,n1,n3,hk,fun H2 s2=>?_⟩;have s02:=s1.trans s2;have ob2:=s02.at ob;clear s1 s2 ob1 hq1 hc1;walk_at "r";refine zu8 (fun h3=>?_) (fun h3=>?_)
 ·walk_at "r";refine ⟨a,q,row,word,rfl,SqL.of (s02.at ha),SqL.of (s02.at hq),by lia,fun H3 s3=>?_⟩;walk_at "r";rw [h3,Bool.true_and] at k;exact k _ (s02.trans s3)
 ·walk_at "r";rw [h3,Bool.false_and] at k;exact k _ s02
theorem z0p {kvs:List (Key×V)}{k:Key}{v:V} (h:(zbr kvs k).isSome=true):(putK kvs k v).length=kvs.length:=by
 unfold putK;rw [zfp,h,if_pos rfl,List.length_map]
theorem zv5 {kvs:List (Key×V)}{k:Key}{v:V} (h:(zbr kvs k).isSome=false):(putK kvs k v).length=kvs.length+1:=by
 unfold putK;rw [zfp,h,if_neg (by decide),List.length_append];rfl
structure Mw (kinds:Int) (cuts word:List Int) (i:Nat) (seen:List Int):Prop where
 few:(seen.length:Int)<kinds
 small:cuts.length<=i
 len:word.length=cuts.length
 nodup:seen.Nodup
theorem zv2 {seen:List Int}{z:Int} (M:seen.Nodup) (hs:z∉seen):(seen++[z]).Nodup:=by
 rw [List.nodup_append];refine ⟨M,List.nodup_cons.mpr ⟨List.not_mem_nil,List.nodup_nil⟩,fun x hx y hy=>?_⟩;rw [List.mem_singleton.mp hy];exact fun e=>hs (e▸hx)
noncomputable def zpz (C:Addr):Sp:=fun vs H Q _=>∃ (a:Addr) (row:List Int) (kinds:Int),vs=[.ref a,.int kinds]/\H a=some (.lst (row.map V.int))/\row.length<=900/\1<=kinds/\∀ (x dx:Addr) (fs:List (Str×V)) (c q:Addr) (cuts word:List Int) H',H x=none->H c=none->H q=none->c≠q->Same H H'->zvo C H' x dx fs c q cuts word->word.length=cuts.length+1->cuts.length<=row.length->Q (.ref x) H'
theorem zwh (F:Fun K "missing" "missing" zku f fd) (T:Blt mg) (je:Cal K mg "checked_row" f1 fd1 jq) (jf:qm P w K mg base CX0 3 f1 fd1 jq zan)
  (ze5:Cal K mg "is_whole" f2 fd2 za6) (zfa:qm P w K mg base CX0 1 f2 fd2 za6 zf4)
  (zbp:Cal K mg "is_count" f3 fd3 uh) (zbq:qm P w K mg base CX0 2 f3 fd3 uh zd4)
  (zos:Cal K mg "least_unseen" f4 fd4 zbi) (zog:qm P w K mg base CX0 1 f4 fd4 zbi zha)
  (zd8:Mak K mg "Missing" jc f5 fd5 ji) (xx:qm P w K mg base CX0 1 f5 fd5 ji (zmq jc)):qm P w K mg base CX0 4 f fd zhu (zpz jc):=by
 refine F.ok zpw (fun vs H Q E h=>by obtain ⟨_,_,_,rfl,_⟩:=h;rfl) fun cdv A outer s H vs Q E hr h=>?_;obtain ⟨a,row,kinds,rfl,ha,hn,hk,k⟩:=h;have nd:=zpw.nd;have hu:=hr.units;have hu1:(A.deeper (envOfC "missing" (zq zku) s.heap.objs.size f cdv)).units+1<cLine:=by lia
 refine ⟨_,(za (sv 2 nd (fcl jf hr je (a1 (pv 0))))
  (za (zc2 (PW.pt (zc6 (yj (j5 (fcl zfa hr ze5 (a1 (pv 1))))) (zbd (tc zgu (pv 1) zc)))) (zp zqn) vm)
  (za (sv 3 nd (zr qu))
  (za (sv 4 nd (zr qu))
  (za (sv 5 nd zuz)
  (za (vq PassesOwn.never rfl (zjv rfl T.no_enumerate boot_enumerate (a1 (pv 2))) (zel (n:=2) rfl (jj (gv 6 nd) (jj (gv 7 nd) zb2))) (za (zc2 (j5 (fcl zbq hr zbp (a2 (pv 7) (z9 zak (pv 1) zc)))) (zp (zty hu1 (pv 5) (pv 7) zf5 rfl)) vm)
  (zp (zc2 (tc (yp hu) (ln T (pv 5)) (pv 1)) (za (pap (pv 3) (z9 z8 (pv 6) zc))
  (za (pap (pv 4) (pv 7))
  (zp (sv 5 nd zuz)))) vm))))
  (za (pap (pv 4) (fcl zog hr zos (a1 (pv 5))))
  (zp (qx (fmk zd8 xx hr (a2 (pv 3) (pv 4)))))))))))),?_⟩
 try simp only [ck1,ck2]
 rw [show L2.start zs4 [V.ref a,V.int kinds]=[some (V.ref a),some (V.int kinds),none,none,none,none,none,none] from rfl];walk_at "r";refine ⟨a,row,rfl,ha,by lia,fun a2 H1 ha2 s1 h1=>?_⟩;walk_at "r";refine ⟨kinds,rfl,?_⟩;walk_at "r";refine zaq (fun h2=>absurd h2 (by lia)) (fun h2=>?_);walk_at "r";intro c hc;walk_at "r";intro q hq;walk_at "r";intro d hd;have cq:c≠q:=zj zb hq;have cd:c≠d:=zj (zf zb cq) hd;have qd:q≠d:=zj zb hd;have f1:=zy hq;have f2:=zy (zy hd);have s4:Same H (upd (upd (upd H1 c (.lst [])) q (.lst [])) d (.dK [])):=s1.trans (((Same.upd_new hc).trans (Same.upd_new hq)).trans (Same.upd_new hd));have hc4:(upd (upd (upd H1 c (.lst [])) q (.lst [])) d (.dK [])) c=some (.lst (([]:List Int).map V.int)):=zf (zf zb cq) cd;have hq4:(upd (upd (upd H1 c (.lst [])) q (.lst [])) d (.dK [])) q=some (.lst (([]:List Int).map V.int)):=zf zb qd;have hd4:(upd (upd (upd H1 c (.lst [])) q (.lst [])) d (.dK [])) d=some (.dK []):=zb;have h14:(upd (upd (upd H1 c (.lst [])) q (.lst [])) d (.dK [])) a2=some (.lst (row.map V.int)):=zu (zu (zu h1 hc) hq) hd;have c0:H c=none:=s1.free hc;have q0:H q=none:=s1.free f1;have d0:H d=none:=s1.free f2;have ac:a2≠c:=zj h1 hc;have aq:a2≠q:=zj h1 f1;simp only [List.map_nil];generalize (upd (upd (upd H1 c (.lst [])) q (.lst [])) d (.dK []))=H4 at s4 hc4 hq4 hd4 h14 ⊢;clear hc hq hd f1 f2 s1 h1;walk_at "r";refine vf (zh5 (xs:=row)) (fun i σ H2=>∃ (d:Addr) (kvs:List (Key×V)) (cuts word:List Int) (seen:List Int) (v6 v7:Option V),σ=[some (.ref a),some (.int kinds),some (.ref a2),some (.ref c),some (.ref q),some (.ref d),v6,v7]/\Same H H2/\H d=none/\H2 a2=some (.lst (row.map V.int))/\H2 c=some (.lst (cuts.map V.int))/\H2 q=some (.lst (word.map V.int))/\H2 d=some (.dK kvs)/\kvs.length=seen.length/\(∀ y,(zbr kvs (.inl y)).isSome=decide (y∈seen))/\Mw kinds cuts word i seen/\seen.length<=i) ?_ ?_ ?_ ?_
 ·exact ⟨d,[],[],[],[],none,none,rfl,s4,d0,h14,hc4,hq4,hd4,rfl,fun y=>rfl,⟨hk,Nat.le_refl _,rfl,List.nodup_nil⟩,Nat.zero_le _⟩
 ·rintro i σ H2 _ ⟨_,_,_,_,_,_,_,_,_,_,q,_⟩;exact SqL.of q
 ·rintro i ⟨z,j⟩ x σ H2 H3 hy ⟨d,kvs,cuts,word,seen,v6,v7,rfl,s2,d0,h1,hc,hq,hd,lk,hv,M,li⟩ ⟨T',hT,rfl,rfl⟩;rw [List.getElem?_zipIdx] at hy;obtain ⟨z',e1,e2⟩:=Option.map_eq_some_iff.mp hy;have ej:j=i:=by have:=congrArg Prod.snd e2;simpa using this.symm
  have ez:z'=z:=congrArg Prod.fst e2;subst ej ez;obtain ⟨hi,e1⟩:=List.getElem?_eq_some_iff.mp e1;have cd:c≠d:=fun e=>by rw [e,hd] at hc;cases hc
  have qd:q≠d:=fun e=>by rw [e,hd] at hq;cases hq
  have ad:a2≠d:=fun e=>by rw [e,hd] at h1;cases h1
  have s3:Same H (upd H2 T' (.tup [.int (j:Nat),.int z'])):=s2.trans (Same.upd_new hT);have h13:=zu (o:=.tup [.int (j:Nat),.int z']) h1 hT;have hc3:=zu (o:=.tup [.int (j:Nat),.int z']) hc hT;have hq3:=zu (o:=.tup [.int (j:Nat),.int z']) hq hT;have hd3:=zu (o:=.tup [.int (j:Nat),.int z']) hd hT;have ht3:(upd H2 T' (.tup [.int (j:Nat),.int z'])) T'=some (.tup [.int (j:Nat),.int z']):=zb;simp only at h13 hc3 hq3 hd3 ht3 s3 ⊢
  generalize upd H2 T' (.tup [.int (j:Nat),.int z'])=H3 at h13 hc3 hq3 hd3 ht3 s3 ⊢;clear h1 hc hq hd hT s2 hy;have few:=M.few;have csm:=M.small;have cl:=M.len;walk_at "r";refine ⟨z',kinds-1,rfl,?_⟩;have e:decide (0<=z'/\z'<=kinds-1)=Lf.uo kinds z':=by
   unfold Lf.uo;by_cases q:0<=z'/\z'<kinds
   ·rw [decide_eq_true q,decide_eq_true ⟨q.1,by lia⟩]
   ·rw [decide_eq_false q,decide_eq_false fun u=>q ⟨u.1,by lia⟩]
  rw [e];walk_at "r";refine zu8 (fun h5=>?_) (fun h5=>?_)
  ·walk_at "r";refine qam hd3 (by lia) ?_;by_cases h6:z'∈seen
   ·have lk':(putK kvs (.inl z') (V.bl true)).length=seen.length:=by rw [z0p (by rw [hv];exact decide_eq_true h6),lk]
    have hv':∀ y,(zbr (putK kvs (.inl z') (V.bl true)) (.inl y)).isSome=decide (y∈seen):=fun y=>by
     rw [zfj];by_cases e:y=z'
     ·rw [e,if_pos rfl,decide_eq_true h6];rfl
     ·rw [if_neg (fun c=>e (Sum.inl.inj c)),hv]
    generalize putK kvs (.inl z') (V.bl true)=kvs' at lk' hv' ⊢;have hd4:(upd H3 d (.dK kvs')) d=some (.dK kvs'):=zb;walk_at "r";refine zaq (fun h7=>absurd h7 (by lia)) (fun h7=>?_);walk_at "r";exact ⟨d,kvs',cuts,word,seen,_,_,rfl,by walk_at "s",d0,zf h13 ad,zf hc3 cd,zf hq3 qd,hd4,lk',hv',⟨few,Nat.le_succ_of_le csm,cl,M.nodup⟩,Nat.le_succ_of_le li⟩
   ·have lk':(putK kvs (.inl z') (V.bl true)).length=(seen++[z']).length:=by rw [zv5 (by rw [hv];exact decide_eq_false h6),lk,List.length_append];rfl
    have hv':∀ y,(zbr (putK kvs (.inl z') (V.bl true)) (.inl y)).isSome=decide (y∈seen++[z']):=fun y=>by
     rw [zfj];by_cases e:y=z'
     ·rw [e,if_pos rfl,decide_eq_true (by simp)];rfl
     ·rw [if_neg (fun c=>e (Sum.inl.inj c)),hv];simp [e]
    generalize putK kvs (.inl z') (V.bl true)=kvs' at lk' hv' ⊢;have hd4:(upd H3 d (.dK kvs')) d=some (.dK kvs'):=zb;have hc4:=zf (o:=.dK kvs') hc3 cd;have hq4:=zf (o:=.dK kvs') hq3 qd;have h14:=zf (o:=.dK kvs') h13 ad;have s4:Same H (upd H3 d (.dK kvs')):=by walk_at "s"
    generalize upd H3 d (.dK kvs')=H4 at hd4 hc4 hq4 h14 s4 ⊢;rw [List.length_append,List.length_singleton] at lk';walk_at "r";refine zaq (fun h7=>?_) (fun h7=>?_)
    ·walk_at "r";refine zda hc4 (by lia) ?_;walk_at "r";refine zda (zf hq4 (Ne.symm cq)) (by lia) ?_;walk_at "r";intro d2 hd2;have d20:H d2=none:=s4.free (zy (zy hd2));walk_at "r";have cd2:c≠d2:=zj (zf zb cq) hd2;have qd2:q≠d2:=zj zb hd2;have ad2:a2≠d2:=zj (zf (zf h14 ac) aq) hd2;exact ⟨d2,[],cuts++[(j:Int)+1],word++[z'],[],_,_,rfl,by walk_at "s",d20,zf (zf (zf h14 ac) aq) ad2,zf (zf zb cq) cd2,zf zb qd2,zb,rfl,fun y=>rfl,⟨hk,by rw [List.length_append];exact Nat.succ_le_succ csm,by rw [List.length_append,List.length_append,cl];rfl,List.nodup_nil⟩,Nat.zero_le _⟩
    ·walk_at "r";exact ⟨d,kvs',cuts,word,seen++[z'],_,_,rfl,s4,d0,h14,hc4,hq4,hd4,by rw [List.length_append,List.length_singleton];exact lk',hv',⟨by rw [List.length_append,List.length_singleton];lia,Nat.le_succ_of_le csm,cl,zv2 M.nodup h6⟩,by rw [List.length_append,List.length_singleton];exact Nat.succ_le_succ li⟩
  ·walk_at "r";refine zaq (fun h7=>absurd h7 (by lia)) (fun h7=>?_);walk_at "r";exact ⟨d,kvs,cuts,word,seen,_,_,rfl,s3,d0,h13,hc3,hq3,hd3,lk,hv,⟨few,Nat.le_succ_of_le csm,cl,M.nodup⟩,Nat.le_succ_of_le li⟩
 ·rintro σ H2 ⟨d,kvs,cuts,word,seen,v6,v7,rfl,s2,d0,h1,hc,hq,hd,lk,hv,M,li⟩;rw [List.length_zipIdx] at M li;have few:=M.few;have csm:=M.small;have cl:=M.len;walk_at "r";refine ⟨d,kvs,seen,rfl,hd,M.nodup,hv,fun u hu1 hu2=>?_⟩;walk_at "r";refine zda hq (by lia) ?_;have s3:Same H (upd H2 q (.lst ((word++[(u:Int)]).map V.int))):=by walk_at "s"
  have hc3:(upd H2 q (.lst ((word++[(u:Int)]).map V.int))) c=some (.lst (cuts.map V.int)):=zf hc cq;have hq3:(upd H2 q (.lst ((word++[(u:Int)]).map V.int))) q=some (.lst ((word++[(u:Int)]).map V.int)):=zb;generalize upd H2 q (.lst ((word++[(u:Int)]).map V.int))=H3 at s3 hc3 hq3 ⊢;walk_at "r";intro x dx hx hdx xdx;have hD6:∀ {c o},H3 c=some o->(upd (upd H3 dx (.own x)) x (.ins jc dx [])) c=some o:=fun {c o} hc=>zf (zu hc hdx) (zj hc hx);refine ⟨x,dx,c,q,cuts,_,rfl,zb,hD6 hc3,hD6 hq3,fun fs c' q' H7 hc' hq' cq' s7 LA=>⟨rfl,?_⟩⟩;refine k x dx fs c' q' cuts _ H7 (s3.free hx) (s3.free (zy (zy hc'))) (s3.free (zy (zy hq'))) cq' ?_ LA (by rw [List.length_append,cl];rfl) csm;intro y o hy;exact s7 y o (hD6 (s3 _ _ hy)) (by simpa using zj hy (s3.free hx))
noncomputable abbrev zhd:=bd 16
noncomputable abbrev zlz:List Str:=["pair","one","other"]
noncomputable abbrev zco:List Str:=["pair","one","other"]
theorem zkh:z7 zlz zco (zq zhd):=by walk_at "a"
noncomputable abbrev zf1:=bd 17
noncomputable abbrev zkl:List Str:=["pair","row","one","other","mine","theirs","after"]
noncomputable abbrev zae:List Str:=["pair","row","one","other"]
theorem zir:z7 zkl zae (zq zf1):=by walk_at "a"
noncomputable abbrev zdm:=bd 18
noncomputable abbrev zkm:List Str:=["pair","known","row","one","other"]
noncomputable abbrev zb5:List Str:=["pair","known","row","one","other"]
theorem zi2:z7 zkm zb5 (zq zdm):=by walk_at "a"
noncomputable def zke:Sp:=fun vs H Q _=>∃ (t a b:Addr) (i j:Int) (one other:List Int),vs=[.ref t,.ref a,.ref b]/\H t=some (.tup [.int i,.int j])/\H a=some (.lst (one.map V.int))/\H b=some (.lst (other.map V.int))/\Q (.bl (decide ((0<=i/\i<=(one.length:Int))/\0<=j/\j<=(other.length:Int)))) H
theorem zqx (F:Fun K "are_counts" "are_counts" zhd f fd) (T:Blt mg) (zbp:Cal K mg "is_count" f1 fd1 uh) (zbq:qm P w K mg base CX0 2 f1 fd1 uh zd4):qm P w K mg base CX0 3 f fd zco zke:=by
 refine F.ok zkh (fun vs H Q E h=>by obtain ⟨_,_,_,_,_,_,_,rfl,_⟩:=h;rfl) fun cdv A outer s H vs Q E hr h=>?_;obtain ⟨t,a,b,i,j,one,other,rfl,ht,ha,hb,k⟩:=h;have nd:=zkh.nd;have hu:=hr.units;refine ⟨_,(za (pif (PW.pt (zc6 (yj (j5 (jk zbl rfl T.no_isinstance boot_isinstance (a2 (pv 0) (zsx rfl T.no_tuple boot_tuple))))) (zbd (tc (za8 hu) (ln T (pv 0)) zc)))))
  (zp (qx (zcv (fcl zbq hr zbp (a2 (px (pv 0) zc) (ln T (pv 1)))) (zd3 (fcl zbq hr zbp (a2 (px (pv 0) zc) (ln T (pv 2))))))))),?_⟩
 try simp only [ck1,ck2]
 rw [show L2.start zlz [V.ref t,V.ref a,V.ref b]=[some (V.ref t),some (V.ref a),some (V.ref b)] from rfl];walk_at "r";refine z58 ht ?_;have e2:(([V.int i,V.int j]:List V).length:Int)=2:=rfl;rw [e2];walk_at "r";refine zlh ht rfl ?_;walk_at "r";refine ⟨i,one.length,rfl,?_⟩;walk_at "r";refine zaq (fun h1=>?_) (fun h1=>?_)
 ·walk_at "r";refine zlh ht rfl ?_;walk_at "r";refine ⟨j,other.length,rfl,?_⟩;have e:decide ((0<=i/\i<=(one.length:Int))/\0<=j/\j<=(other.length:Int))=decide (0<=j/\j<=(other.length:Int)):=by
   by_cases h2:0<=j/\j<=(other.length:Int)
   ·rw [decide_eq_true h2,decide_eq_true ⟨h1,h2⟩]
   ·rw [decide_eq_false h2,decide_eq_false fun q=>h2 q.2]
  rw [e] at k;exact k
 ·walk_at "r";rw [decide_eq_false fun q=>h1 q.1] at k;exact k
noncomputable def ze1:Sp:=fun vs H Q _=>∃ (t a b c:Addr) (i j:Int) (row one other:List Int),vs=[.ref t,.ref a,.ref b,.ref c]/\H t=some (.tup [.int i,.int j])/\H a=some (.lst (row.map V.int))/\H b=some (.lst (one.map V.int))/\H c=some (.lst (other.map V.int))/\Lf.Box one other (i,j)/\row.length=one.length+other.length /\
 ∀ (p:Addr) (ts:List Addr) H',H p=none->Same H H'->Prs H' p ts (Lf.zbb row one other (i,j))->Q (.ref p) H'
theorem zof (F:Fun K "pairs_after" "pairs_after" zf1 f fd) (T:Blt mg):qm P w K mg base CX0 1 f fd zae ze1:=by
 refine F.ok zir (fun vs H Q E h=>by obtain ⟨_,_,_,_,_,_,_,_,_,rfl,_⟩:=h;rfl) fun cdv A outer s H vs Q E hr h=>?_;obtain ⟨t,a,b,c,i,j,row,one,other,rfl,ht,ha,hb,hc,B,hl,k⟩:=h;obtain ⟨b1,b2,b3,b4⟩:=B;simp only at b1 b2 b3 b4
 have nd:=zir.nd;have hu:=hr.units;refine ⟨_,(za (sv 4 nd (px (pv 0) zc))
  (za (sv 5 nd (px (pv 0) zc))
  (za (sv 6 nd (zr qu))
  (za (zc2 (PW.pt (zc8 (tc zgu (pv 4) (ln T (pv 2))) (zd2 (tc (yp hu) (px (pv 2) (pv 4)) (px (pv 1) (z9 z8 (pv 4) (pv 5))))))) (zp (pap (pv 6) (yr (a2 (z9 z8 (pv 4) zc) (pv 5))))) vm)
  (za (zc2 (PW.pt (zc8 (tc zgu (pv 5) (ln T (pv 3))) (zd2 (tc (yp hu) (px (pv 3) (pv 5)) (px (pv 1) (z9 z8 (pv 4) (pv 5))))))) (zp (pap (pv 6) (yr (a2 (pv 4) (z9 z8 (pv 5) zc))))) vm)
  (zp (qx (pv 6)))))))),?_⟩
 try simp only [ck1,ck2]
 rw [show L2.start zkl [V.ref t,V.ref a,V.ref b,V.ref c]=[some (V.ref t),some (V.ref a),some (V.ref b),some (V.ref c),none,none,none] from rfl];walk_at "r";refine zlh ht rfl ?_;walk_at "r";refine zlh ht rfl ?_;walk_at "r";intro p hp;have s0:Same H (upd H p (.lst [])):=Same.upd_new hp;have p0:Prs (upd H p (.lst [])) p [] []:=⟨zb,rfl,fun i t h=>by simp at h⟩
 simp only [List.map_nil];generalize upd H p (.lst [])=H0 at s0 p0 ⊢;walk_at "q";refine zpp (fun H'=>Same H H'/\∃ ts,Prs H' p ts (if i<(one.length:Int)/\one.getD i.toNat 0=row.getD (i+j).toNat 0 then [(i+1,j)] else [])) (fun N hN=>?_) ?_
 ·have hb0:=s0.at hb;have ha0:=s0.at ha;have pa:=p0.at_;walk_at "r";refine zaq (fun h1=>?_) (fun h1=>?_)
  ·walk_at "r";refine zah (SqL.of hb0) b1 h1 ?_;walk_at "r";refine zah (SqL.of ha0) (by lia) (by lia) ?_;walk_at "r";refine zaq (fun h2=>?_) (fun h2=>?_)
   ·walk_at "r";intro u hu';walk_at "r";refine zpv (zu p0.at_ hu') (by simp) ?_;walk_at "r";refine hN _ ⟨zch (s0.trans (Same.upd_new hu')) hp,[u],?_⟩;rw [if_pos ⟨h1,h2⟩];exact (p0.same (Same.upd_new hu')).snoc zb
   ·walk_at "r";refine hN _ ⟨s0,[],?_⟩;rw [if_neg fun z=>h2 z.2];exact p0
  ·walk_at "r";refine hN _ ⟨s0,[],?_⟩;rw [if_neg fun z=>h1 z.1];exact p0
 clear s0 p0 H0;rintro H1 ⟨s1,ts1,p1⟩;refine zpp (fun H'=>Same H H'/\∃ ts,Prs H' p ts (Lf.zbb row one other (i,j))) (fun N hN=>?_) ?_
 ·have hc1:=s1.at hc;have ha1:=s1.at ha;have pa:=p1.at_;have l1:=p1.len;have l2:(if i<(one.length:Int)/\one.getD i.toNat 0=row.getD (i+j).toNat 0 then [(i+1,j)] else []).length<=1:=by split<;>simp
  have no:¬ (j<(other.length:Int)/\other.getD j.toNat 0=row.getD (i+j).toNat 0)->Same H H1/\∃ ts,Prs H1 p ts (Lf.zbb row one other (i,j)):=fun z=>by
   refine ⟨s1,ts1,?_⟩;unfold Lf.zbb;simp only
   rw [if_neg z,List.append_nil];exact p1
  walk_at "r";refine zaq (fun h1=>?_) (fun h1=>?_)
  ·walk_at "r";refine zah (SqL.of hc1) b3 h1 ?_;walk_at "r";refine zah (SqL.of ha1) (by lia) (by lia) ?_;walk_at "r";refine zaq (fun h2=>?_) (fun h2=>?_)
   ·walk_at "r";intro u hu';walk_at "r";refine zpv (zu p1.at_ hu') (by rw [List.length_map];lia) ?_;walk_at "r";refine hN _ ⟨zch (s1.trans (Same.upd_new hu')) hp,ts1++[u],?_⟩;unfold Lf.zbb;simp only
    rw [if_pos (⟨h1,h2⟩:j<(other.length:Int)/\other.getD j.toNat 0=row.getD (i+j).toNat 0)];exact (p1.same (Same.upd_new hu')).snoc zb
   ·walk_at "r";exact hN _ (no fun z=>h2 z.2)
  ·walk_at "r";exact hN _ (no fun z=>h1 z.1)
 rintro H2 ⟨s2,ts2,p2⟩;walk_at "r";exact k p ts2 H2 hp s2 p2
noncomputable def zi5:Sp:=fun vs H Q _=>∃ (t d a b c:Addr) (o:Obj) (kvs:List (List Key×V)) (i j:Int) (row one other:List Int),vs=[.ref t,.ref d,.ref a,.ref b,.ref c]/\H t=some (.tup [.int i,.int j])/\H d=some (.frz o (.dT kvs))/\H a=some (.lst (row.map V.int))/\H b=some (.lst (one.map V.int))/\H c=some (.lst (other.map V.int))/\Lf.Box one other (i,j)/\row.length=one.length+other.length /\
 ∀ H',Same H H'->Q (.bl ((Lf.zbb row one other (i,j)).all fun q=>(zbr kvs (kP q.1 q.2)).isSome)) H'
theorem zoq (F:Fun K "is_followed" "is_followed" zdm f fd) (T:Blt mg) (zfq:Cal K mg "pairs_after" f1 fd1 zae) (zfm:qm P w K mg base CX0 1 f1 fd1 zae ze1):qm P w K mg base CX0 2 f fd zb5 zi5:=by
 refine F.ok zi2 (fun vs H Q E h=>by obtain ⟨_,_,_,_,_,_,_,_,_,_,_,_,rfl,_⟩:=h;rfl) fun cdv A outer s H vs Q E hr h=>?_;obtain ⟨t,d,a,b,c,o,kvs,i,j,row,one,other,rfl,ht,hd,ha,hb,hc,B,hl,k⟩:=h;have nd:=zi2.nd;have hu:=hr.units;have hu1:(A.deeper (envOfC "is_followed" (zq zdm) s.heap.objs.size f cdv)).units+1<cLine:=by lia
 refine ⟨_,(zp (qx (jk (zbx rfl) rfl T.no_all boot_all (a1 (pcm (N:=["after","known"]) (caps:=[1]) (qb (fcl zfm hr zfq (zm (pv 0) (zm (pv 2) (zm (pv 3) (zm (pv 4) qu)))))) (fun _ _ _ _=>⟨_,(z5x (zur hu1 (pv 0) (pv 1)) (by with_unfolding_all rfl)),by walk_at "c"⟩)))))),?_⟩;try simp only [ck1,ck2]
 rw [show L2.start zkm [V.ref t,V.ref d,V.ref a,V.ref b,V.ref c]=[some (V.ref t),some (V.ref d),some (V.ref a),some (V.ref b),some (V.ref c)] from rfl];walk_at "r";refine ⟨t,a,b,c,i,j,row,one,other,rfl,ht,ha,hb,hc,B,hl,fun p ts H1 hp s1 P1=>?_⟩;have pa:=P1.at_;have nl:=Lf.zyg (row:=row) (one:=one) (other:=other) (p:=(i,j));have hd1:=s1.at hd;walk_at "r";refine comp_map (znu P1.len) (fun y=>.bl ((zbr kvs (kP y.2.1 y.2.2)).isSome)) (fun H' s'=>P1.same s') (by rw [List.length_zip];lia) ?_ ?_
 ·rintro n ⟨u,v⟩ x' H5 H6 R R' hi s5 ⟨rfl,rfl,hu'⟩ h5;have hd5:=s5.at hd1;walk_at "r";refine ⟨⟨rfl,rfl⟩,?_⟩;walk_at "r";refine z3e hd5 hu' ?_;exact h5 _ (Same.refl _)
 ·intro D H' hD s' hd';walk_at "r";refine zoy (l:=ts.zip (Lf.zbb row one other (i,j))) (g:=fun y=>(zbr kvs (kP y.2.1 y.2.2)).isSome) (SqL.of hd') ?_;have e:(ts.zip (Lf.zbb row one other (i,j))).all (fun y=>(zbr kvs (kP y.2.1 y.2.2)).isSome)=(Lf.zbb row one other (i,j)).all fun q=>(zbr kvs (kP q.1 q.2)).isSome:=by
   have:Lf.zbb row one other (i,j)=(ts.zip (Lf.zbb row one other (i,j))).map (·.2):=by rw [List.map_snd_zip (by rw [P1.len];exact Nat.le_refl _)]
   conv=>rhs;rw [this]
   rw [List.all_map];rfl
  rw [e];exact k _ (s1.trans s')
noncomputable abbrev zb4:=bd 19
noncomputable abbrev zhm:List Str:=["row","one","other","ahead","pairs","gone","pair","after"]
noncomputable abbrev zat:List Str:=["row","one","other"]
theorem zgt:z7 zhm zat (zq zb4):=by walk_at "a"
noncomputable abbrev zbw:=bd 20
noncomputable abbrev zhf:List Str:=["ahead","pair","places","here","before"]
noncomputable abbrev zas:List Str:=["ahead","pair"]
theorem zgn:z7 zhf zas (zq zbw):=by walk_at "a"
noncomputable def zgl:Sp:=fun vs H Q _=>∃ (a b c:Addr) (row one other:List Int),vs=[.ref a,.ref b,.ref c]/\H a=some (.lst (row.map V.int))/\H b=some (.lst (one.map V.int))/\H c=some (.lst (other.map V.int))/\row.length=one.length+other.length/\one.length<=100/\other.length<=100 /\
 ∀ (d:Addr) (kvs:List (List Key×V)) (ps:List (Int×Int)) (par:Int×Int->Option (Int×Int)) H',H d=none->Same H H'->H' d=some (.dT kvs)->kvs.map Prod.fst=ps.map kPp->zji H' kvs par->Lf.Bfs row one other ps par ps.length->Q (.ref d) H'
theorem zml (F:Fun K "pairs_reached" "pairs_reached" zb4 f fd) (T:Blt mg) (zfq:Cal K mg "pairs_after" f1 fd1 zae) (zfm:qm P w K mg base CX0 1 f1 fd1 zae ze1):qm P w K mg base CX0 2 f fd zat zgl:=by
 refine F.ok zgt (fun vs H Q E h=>by obtain ⟨_,_,_,_,_,_,rfl,_⟩:=h;rfl) fun cdv A outer s H vs Q E hr h=>?_;obtain ⟨a,b,c,row,one,other,rfl,ha,hb,hc,hl,l1,l2,k⟩:=h;have nd:=zgt.nd;have hu:=hr.units;have hu1:(A.deeper (envOfC "pairs_reached" (zq zb4) s.heap.objs.size f cdv)).units+1<cLine:=by lia
 have big:(one.length+1)*(other.length+1)<=101*101:=Nat.mul_le_mul (by lia) (by lia);refine ⟨_,(za (sv 3 nd (zz1 hu (yr (a2 zc zc)) (yr (a2 zc zc))))
  (za (sv 4 nd (zr (a1 (yr (a2 zc zc)))))
  (za (sv 5 nd zc)
  (za (zjx PassesOwn.never (tc zgu (pv 5) (ln T (pv 4))) (za (sv 6 nd (px (pv 4) (pv 5)))
  (za (vq PassesOwn.never rfl (qb (fcl zfm hr zfq (zm (pv 6) (zm (pv 0) (zm (pv 1) (zm (pv 2) qu)))))) (gv 7 nd) (zp (zc2 (zl8 (zh3 hu1 (pv 7) (pv 3)) (by with_unfolding_all rfl)) (za (zty hu1 (pv 3) (pv 7) (pv 6) rfl)
  (zp (pap (pv 4) (pv 7)))) vm)))
  (zp (zoz (i:=5) nd rfl (by first|exact Or.inl rfl|exact Or.inr rfl) zc z19)))))
  (zp (qx (pv 3))))))),?_⟩
 try simp only [ck1,ck2]
 rw [show L2.start zhm [V.ref a,V.ref b,V.ref c]=[some (V.ref a),some (V.ref b),some (V.ref c),none,none,none,none,none] from rfl];iterate 2 walk_at "q"
 refine zbg (fun v H'=>∃ d kvs par,v=.ref d/\H d=none/\Same H H'/\H' d=some (.dT kvs)/\kvs.map Prod.fst=[((0,0):Int×Int)].map kPp/\zji H' kvs par/\Lf.Bfs row one other [(0,0)] par 0) (fun Q' k'=>?_) ?_
 ·intro d hd;walk_at "r";intro t1 ht1;walk_at "r";intro t2 ht2;have dt1:d≠t1:=zj zb ht1;have dt2:d≠t2:=zj (zu zb ht1) ht2;have h1:H t1=none:=zy ht1;have h2:H t2=none:=zy (zy ht2);refine ⟨t1,kP 0 0,rfl,zu (zu zb ht1) ht2,zu zb ht2,?_⟩;refine k' _ _ ⟨d,[(kP 0 0,.ref t2)],fun p=>if p=(0,0) then some (0,0) else none,rfl,hd,?_,zb,rfl,?_,Lf.Bfs.start row one other⟩
  ·exact zch (((Same.upd_new hd).trans (Same.upd_new ht1)).trans (Same.upd_new ht2)) hd
  ·refine ⟨fun p e=>?_,fun p q e=>?_⟩
   ·by_cases z:p=(0,0)
    ·rw [if_pos z] at e;cases e
    ·rw [zbk (fun c=>z ((zrk (p:=(0,0)) (q:=p)).mp c).symm)];rfl
   ·by_cases z:p=(0,0)
    ·rw [if_pos z] at e;cases e
     subst z;exact ⟨t2,zbj rfl,zf zb (Ne.symm dt2)⟩
    ·rw [if_neg z] at e;cases e
 rintro _ H1 ⟨d,kvs,par,rfl,d0,s1,hd1,ek,A1,B1⟩;walk_at "r";intro t0 ht0;walk_at "r";intro p hp;have t0p:t0≠p:=zj zb hp;have dt0:d≠t0:=zj hd1 ht0;have dp:d≠p:=zj (zu hd1 ht0) hp;have s2:Same H (upd (upd H1 t0 (.tup [.int 0,.int 0])) p (.lst [.ref t0])):=s1.trans ((Same.upd_new ht0).trans (Same.upd_new hp));have hd2:(upd (upd H1 t0 (.tup [.int 0,.int 0])) p (.lst [.ref t0])) d=some (.dT kvs):=zu (zu hd1 ht0) hp;have P2:Prs (upd (upd H1 t0 (.tup [.int 0,.int 0])) p (.lst [.ref t0])) p [t0] [(0,0)]:=⟨zb,rfl,fun i t h=>by
  cases i with
  |zero =>
   have:t0=t:=by simpa using h
   subst this
   exact zf zb t0p
  |succ i=>simp at h⟩
 have A2:zji (upd (upd H1 t0 (.tup [.int 0,.int 0])) p (.lst [.ref t0])) kvs par:=A1.same fun t xs e=>zu (zu e ht0) hp;have p0:H p=none:=s1.free (zy hp);generalize (upd (upd H1 t0 (.tup [.int 0,.int 0])) p (.lst [.ref t0]))=H2 at s2 hd2 P2 A2 ⊢;clear s1 hd1 A1 ht0 hp;walk_at "r";refine zn7 (fun m σ H3=>∃ (gone:Nat) (ts:List Addr) (ps:List (Int×Int)) (kvs:List (List Key×V)) (par:Int×Int->Option (Int×Int)) (v6 v7:Option V),σ=[some (.ref a),some (.ref b),some (.ref c),some (.ref d),some (.ref p),some (.int gone),v6,v7]/\Same H H3/\Prs H3 p ts ps/\H3 d=some (.dT kvs)/\kvs.map Prod.fst=ps.map kPp/\zji H3 kvs par/\Lf.Bfs row one other ps par gone/\gone<=ps.length/\m=(one.length+1)*(other.length+1)-gone) _ ⟨0,[t0],[(0,0)],kvs,par,none,none,rfl,s2,P2,hd2,ek,A2,B1,Nat.zero_le _,rfl⟩ ?_;clear s2 hd2 P2 A2 B1 ek kvs par t0p dt0 H2;rintro m σ H3 ⟨gone,ts,ps,kvs,par,v6,v7,rfl,s3,P3,hd3,ek,A3,B3,hg,rfl⟩;have pa:=P3.at_;have lp:=P3.len;have bl:=B3.len;walk_at "r";refine zx6 (SqL.of pa) ?_;rw [List.length_map,lp];walk_at "r";refine zaq (fun h1=>?_) (fun h1=>?_);rotate_left
 ·walk_at "r";have:gone=ps.length:=by lia
  subst this;exact k d kvs ps par H3 d0 s3 hd3 ek A3 B3
 have hlt:gone<ps.length:=by lia
 have hin:ps.getD gone (0,0)∈ps:=by
  rw [List.getD_eq_getElem?_getD,List.getElem?_eq_getElem hlt];exact List.getElem_mem _
 obtain ⟨tg,htg⟩:∃ t,ts[gone]?=some t:=⟨ts[gone]'(by lia),by simp [lp,hlt]⟩
 have tup:=P3.row gone tg htg;generalize hpair:ps.getD gone (0,0)=pair at tup hin;obtain ⟨i,j⟩:=pair;simp only at tup
 refine zsc ?_;walk_at "r";refine z0j (SqL.of pa) (v:=.ref tg) (zua (by rw [List.getElem?_map,htg];rfl)) ?_;walk_at "r";refine ⟨tg,a,b,c,i,j,row,one,other,rfl,tup,s3.at ha,s3.at hb,s3.at hc,B3.box _ hin,hl,fun q ts2 H4 hq s4 P4=>?_⟩;have qa:=P4.at_;have s04:=s3.trans s4;have P34:=P3.same s4;have hd4:=s4.at hd3;have A4:=A3.same fun t xs e=>s4.at e;have tup4:=s4.at tup;have qd:q≠d:=Ne.symm (zj hd3 hq);have qp:q≠p:=Ne.symm (zj P3.at_ hq);have off2:∀ t∈ts2,t≠d/\t≠p:=fun t ht=>by
  obtain ⟨x,y,e⟩:=P4.mem ht;exact ⟨fun z=>(by rw [z,hd4] at e;cases e),fun z=>(by rw [z,P34.at_] at e;cases e)⟩
 have offg:tg≠d/\tg≠p:=⟨fun z=>(by rw [z,hd4] at tup4;cases tup4),fun z=>(by rw [z,P34.at_] at tup4;cases tup4)⟩
 walk_at "r";refine vf (znu P4.len) (fun n σ H5=>∃ (ts:List Addr) (ps:List (Int×Int)) (kvs:List (List Key×V)) (par:Int×Int->Option (Int×Int)) (v7:Option V),σ=[some (.ref a),some (.ref b),some (.ref c),some (.ref d),some (.ref p),some (.int gone),some (.ref tg),v7]/\Same H H5/\SameBut [d,p] H4 H5/\Prs H5 p ts ps/\H5 d=some (.dT kvs)/\kvs.map Prod.fst=ps.map kPp/\zji H5 kvs par/\Lf.zqj row one other ps par gone (i,j) n) ?_ ?_ ?_ ?_
 ·exact ⟨ts,ps,kvs,par,_,rfl,s04,fun _ _ h _=>h,P34,hd4,ek,A4,⟨B3,hpair,hlt,by simp⟩⟩
 ·rintro n σ H5 _ ⟨_,_,_,_,_,_,_,s5,_⟩;exact P4.but s5 (by simpa using ⟨qd,qp⟩) fun t ht=>by simpa using off2 t ht
 ·clear ek A3 A4 B3 bl hd3 hd4 P3 P34 hpair hlt hin htg lp pa hg s3 s4 s04 h1 tup;rintro n ⟨u,v1,v2⟩ x' σ H5 H6 hy ⟨ts',ps',kvs',par',v7',rfl,s05,s5,P5,hd5,ek5,A5,B5⟩ ⟨rfl,rfl,hu'⟩;have hnx:(Lf.zbb row one other (i,j))[n]?=some (v1,v2):=by
   obtain ⟨z1,z2⟩:=List.getElem?_eq_some_iff.mp hy;rw [List.length_zip] at z1;rw [List.getElem_zip] at z2;have i2:n<(Lf.zbb row one other (i,j)).length:=by lia
   rw [List.getElem?_eq_getElem i2];exact congrArg some (congrArg Prod.snd z2)
  simp only at hu'
  have bl5:=B5.b.len;have lp5:=P5.len;have tup5:=s5.at tup4 (by simpa using offg);walk_at "r";refine zpx hd5 hu' ?_;have eiff:=A5.some_iff (v1,v2);have ekeys:=B5.b.keys (v1,v2);walk_at "r";rw [if_pos rfl];refine zjn (fun h2=>?_) (fun h2=>?_)
  ·rw [eiff] at h2;have hno:(v1,v2)∉ps':=fun z=>by rw [ekeys.mpr z] at h2;cases h2
   have lk:kvs'.length=ps'.length:=by have:=congrArg List.length ek5;simpa using this
   walk_at "r";refine z4l hd5 hu' (by lia) ?_;have en:=z31 (kvs:=kvs') (k:=kP v1 v2) (v:=.ref tg) (by rw [<- h2];exact eiff);have off5:∀ t∈ts',t≠d/\t≠p:=fun t ht=>by
    obtain ⟨x,y,e⟩:=P5.mem ht;exact ⟨fun z=>(by rw [z,hd5] at e;cases e),fun z=>(by rw [z,P5.at_] at e;cases e)⟩
   have P6:=P5.off (o:=.dT (putK kvs' (kP v1 v2) (.ref tg))) (Ne.symm dp) fun t ht=>(off5 t ht).1;have pa6:=P6.at_;have ud:u≠d:=fun z=>by rw [z,hd5] at hu';cases hu'
   have up:u≠p:=fun z=>by rw [z,P5.at_] at hu';cases hu'
   have hu6:(upd H6 d (.dT (putK kvs' (kP v1 v2) (.ref tg)))) u=some (.tup [.int v1,.int v2]):=zf hu' ud;walk_at "r";refine zpv pa6 (by rw [List.length_map];lia) ?_;walk_at "r";refine ⟨ts'++[u],ps'++[(v1,v2)],_,_,_,rfl,zch (zch s05 d0) p0,(s5.upd (by simp)).upd (by simp),P6.snoc hu6,zf zb dp,?_,?_,B5.add hnx hno fun _=>rfl⟩
   ·rw [en,List.map_append,List.map_append,ek5];rfl
   ·refine (A5.put (q:=(v1,v2)) (pair:=(i,j)) (t:=tg) tup5).same fun t xs e=>?_;exact zf (zf e (fun z=>by rw [z,hd5] at e;cases e)) (fun z=>by rw [z,P5.at_] at e;cases e)
  ·rw [eiff] at h2;walk_at "r";exact ⟨ts',ps',kvs',par',_,rfl,s05,s5,P5,hd5,ek5,A5,B5.skip hnx (ekeys.mp h2)⟩
 ·clear ek A3 A4 bl hd3 hd4 P3 P34 pa;rintro σ H5 ⟨ts',ps',kvs',par',v7',rfl,s05,s5,P5,hd5,ek5,A5,B5⟩;rw [List.length_zip,P4.len,Nat.min_self] at B5;have bl5:=B5.b.len;have lt5:=B5.lt;walk_at "r";have e1:((gone:Int)+1)=((gone+1:Nat):Int):=by lia
  rw [e1];exact ⟨_,by lia,gone+1,ts',ps',kvs',par',_,_,rfl,s05,P5,hd5,ek5,A5,B5.turn (Nat.le_refl _),by lia,rfl⟩
noncomputable def zgd (K:PySem.W.Frag):Sp:=fun vs H Q _=>∃ (d t:Addr) (kvs:List (List Key×V)) (ps:List (Int×Int)) (par:Int×Int->Option (Int×Int)) (g:Nat) (row one other:List Int),vs=[.ref d,.ref t]/\H d=some (.dT kvs)/\H t=some (.tup [.int (one.length:Nat),.int (other.length:Nat)])/\zji H kvs par/\Lf.Bfs row one other ps par g/\((one.length:Int),(other.length:Int))∈ps/\row.length=one.length+other.length/\row.length<=1000 /\
 ∀ (l:Addr) (pl:List Int) H',H l=none->Same H H'->H' l=some (.lst (pl.map V.int))->pl.length<=row.length->Q (.ref l) H'
theorem zmg (F:Fun K "places_on_way" "places_on_way" zbw f fd) (T:Blt mg):qm P w K mg base CX0 1 f fd zas (zgd K):=by
 refine F.ok zgn (fun vs H Q E h=>by obtain ⟨_,_,_,_,_,_,_,_,_,rfl,_⟩:=h;rfl) fun cdv A outer s H vs Q E hr h=>?_;obtain ⟨d,t,kvs,ps,par,g,row,one,other,rfl,hd,ht,Ap,B,hin,hl,l1,k⟩:=h;have nd:=zgn.nd;have hu:=hr.units;have hu1:(A.deeper (envOfC "places_on_way" (zq zbw) s.heap.objs.size f cdv)).units+1<cLine:=by lia
 refine ⟨_,(za (sv 2 nd (zr qu))
  (za (sv 3 nd (pv 1))
  (za (zjx PassesOwn.never (tc (za8 hu) (pv 3) (yr (a2 zc zc))) (za (sv 4 nd (z2r hu1 (pv 0) (pv 3) (fun _ _=>rfl)))
  (za (zc2 (tc zgu (px (pv 4) zc) (px (pv 3) zc)) (zp (pap (pv 2) (z9 z8 (px (pv 4) zc) (px (pv 4) zc)))) vm)
  (zp (sv 3 nd (pv 4))))))
  (za (zgz (zza PySem.F.plainAttrs_list PySem.F.slot_list_reverse PySem.F.type_list_reverse zp9 (pv 2)))
  (zp (qx (pv 2))))))),?_⟩
 try simp only [ck1,ck2]
 rw [show L2.start zhf [V.ref d,V.ref t]=[some (V.ref d),some (V.ref t),none,none,none] from rfl];walk_at "r";intro l hl0;simp only [List.map_nil];have s0:Same H (upd H l (.lst [])):=Same.upd_new hl0;have q0:(upd H l (.lst [])) l=some (.lst (([]:List Int).map V.int)):=zb;generalize upd H l (.lst [])=H0 at s0 q0 ⊢;walk_at "r";refine zn7 (fun m σ H2=>∃ (i j:Nat) (th:Addr) (acc:List Int) (v4:Option V),σ=[some (.ref d),some (.ref t),some (.ref l),some (.ref th),v4]/\Same H H2/\H2 th=some (.tup [.int i,.int j])/\H2 l=some (.lst (acc.map V.int))/\((i:Int),(j:Int))∈ps/\acc.length+i+j<=row.length/\m=i+j) (one.length+other.length) ?_ ?_
 ·exact ⟨one.length,other.length,t,[],none,rfl,s0,s0.at ht,q0,hin,by simp;lia,rfl⟩
 rintro m σ H2 ⟨i,j,th,acc,v4,rfl,s2,hth,hla,hij,hlen,rfl⟩;walk_at "r";intro z hz;refine z73 (zu hth hz) zb ?_;have s3:Same H (upd H2 z (.tup [.int 0,.int 0])):=s2.trans (Same.upd_new hz);have hth3:(upd H2 z (.tup [.int 0,.int 0])) th=some (.tup [.int i,.int j]):=zu hth hz;have hla3:(upd H2 z (.tup [.int 0,.int 0])) l=some (.lst (acc.map V.int)):=zu hla hz;generalize upd H2 z (.tup [.int 0,.int 0])=H3 at s3 hth3 hla3 ⊢;clear s2 hth hla hz;walk_at "r";refine zdj (fun h1=>?_) (fun h1=>?_)
 ·obtain ⟨q,hq⟩:∃ q,par ((i:Int),(j:Int))=some q:=by
   have:=(B.keys _).mpr hij;exact Option.isSome_iff_exists.mp this
  obtain ⟨hqs,hqn⟩:=B.step _ _ hq h1;obtain ⟨tq,hv,htq⟩:=Ap.yes _ _ hq;obtain ⟨b1,b2,b3,b4⟩:=B.box q hqs;obtain ⟨q1,q2⟩:=q;simp only at b1 b2 b3 b4 htq
  obtain ⟨qi,rfl⟩:∃ n:Nat,q1=n:=⟨q1.toNat,by lia⟩
  obtain ⟨qj,rfl⟩:∃ n:Nat,q2=n:=⟨q2.toNat,by lia⟩
  have htq3:=s3.at htq;have ltq:l≠tq:=fun e=>by rw [e,htq] at hl0;cases hl0
  refine zsc ?_;walk_at "r";refine z84 (s3.at hd) hth3 hv ?_;walk_at "r";refine zlh htq3 rfl ?_;walk_at "r";refine zlh hth3 rfl ?_;walk_at "r";rcases Lf.zg8.mp hqn with ⟨c1,c2,c3⟩|⟨c1,c2,c3⟩
  ·simp only [Prod.mk.injEq] at c3;simp only at c1 c2
   have ei:i=qi+1:=by lia
   have ej:j=qj:=by lia
   subst ei ej;refine zaq (fun h2=>?_) (fun h2=>absurd (by lia) h2);walk_at "r";refine zlh htq3 rfl ?_;walk_at "r";refine zlh htq3 rfl ?_;walk_at "r";refine zda hla3 (by lia) ?_;walk_at "r";exact ⟨qi+j,by lia,qi,j,tq,acc++[(qi:Int)+(j:Int)],_,rfl,by walk_at "s",zf htq3 (Ne.symm ltq),zb,hqs,by rw [List.length_append,List.length_singleton];lia,rfl⟩
  ·simp only [Prod.mk.injEq] at c3;simp only at c1 c2
   have ei:i=qi:=by lia
   have ej:j=qj+1:=by lia
   subst ei ej;refine zaq (fun h2=>absurd h2 (by lia)) (fun h2=>?_);walk_at "r";exact ⟨i+qj,by lia,i,qj,tq,acc,_,rfl,s3,htq3,hla3,hqs,by lia,rfl⟩
 ·have e:((i:Int),(j:Int))=(0,0):=h1;simp only [Prod.mk.injEq] at e;have ei:i=0:=by lia
  have ej:j=0:=by lia
  subst ei ej;walk_at "r";refine z1v hla3 ?_;walk_at "r";exact k l acc.reverse _ hl0 (by walk_at "s") (by rw [List.map_reverse];exact zb) (by rw [List.length_reverse];exact hlen)
structure zsf (C:Addr) (H:Hp) (x dx:Addr) (fs:List (Str×V)) (pl:Addr) (ps:List Int):Prop where
 ob:H x=some (.ins C dx fs)
 fp:fs.lookup ("places":Str)=some (.ref pl)
 fn:fs.lookup ("shows":Str)=none
 hp:H pl=some (.lst (ps.map V.int))
structure zsm (C:Addr) (H:Hp) (x dx:Addr) (fs:List (Str×V)) (p:Addr) (ts:List Addr) (ps:List (Int×Int)):Prop where
 ob:H x=some (.ins C dx fs)
 fp:fs.lookup ("pairs":Str)=some (.ref p)
 fn:fs.lookup ("shows":Str)=none
 pr:Prs H p ts ps
theorem zsf.same {C:Addr}{H H':Hp}{x dx:Addr}{fs:List (Str×V)}{pl:Addr}{ps:List Int} (L:zsf C H x dx fs pl ps) (s:Same H H'):zsf C H' x dx fs pl ps:=⟨s.at L.ob,L.fp,L.fn,s.at L.hp⟩
theorem zsm.same {C:Addr}{H H':Hp}{x dx:Addr}{fs:List (Str×V)}{p:Addr}{ts:List Addr}{ps:List (Int×Int)} (L:zsm C H x dx fs p ts ps) (s:Same H H'):zsm C H' x dx fs p ts ps:=⟨s.at L.ob,L.fp,L.fn,L.pr.same s⟩
noncomputable def zeu (C:Addr):Sp:=fun vs H Q _=>∃ (x dx:Addr) (fs:List (Str×V)) (pl:Addr) (ps:List Int) (a b c:Addr) (row one other:List Int),vs=[.ref x,.ref a,.ref b,.ref c]/\zsf C H x dx fs pl ps/\H a=some (.lst (row.map V.int))/\H b=some (.lst (one.map V.int))/\H c=some (.lst (other.map V.int))/\ps.length<=1000/\row.length<=1000/\one.length<=1000/\other.length<=1000/\∀ H',Same H H'->Q (.bl (Lf.mixed row one other ps)) H'
noncomputable def zc7 (C:Addr):Sp:=fun vs H Q _=>∃ (x dx:Addr) (fs:List (Str×V)) (p:Addr) (ts:List Addr) (ps:List (Int×Int)) (a b c:Addr) (row one other:List Int),vs=[.ref x,.ref a,.ref b,.ref c]/\zsm C H x dx fs p ts ps/\H a=some (.lst (row.map V.int))/\H b=some (.lst (one.map V.int))/\H c=some (.lst (other.map V.int))/\ps.length<=100000/\row.length<=1000/\one.length<=1000/\other.length<=1000/\∀ H',Same H H'->Q (.bl (Lf.zc0 row one other ps)) H'
noncomputable def zqq (kM kU:Addr):Sp:=fun vs H Q _=>∃ (a b c:Addr) (row one other:List Int),vs=[.ref a,.ref b,.ref c]/\H a=some (.lst (row.map V.int))/\H b=some (.lst (one.map V.int))/\H c=some (.lst (other.map V.int))/\row.length<=200/\one.length<=100/\other.length<=100/\row.length=one.length+other.length /\
 (∀ (x dx:Addr) (fs:List (Str×V)) (pl:Addr) (ps:List Int) H',H x=none->H pl=none->Same H H'->zsf kM H' x dx fs pl ps->ps.length<=row.length->Q (.ref x) H') /\
 (∀ (x dx:Addr) (fs:List (Str×V)) (p:Addr) (ts:List Addr) (ps:List (Int×Int)) H',H x=none->H p=none->Same H H'->zsm kU H' x dx fs p ts ps->ps.length<=90000->Q (.ref x) H')
noncomputable abbrev zc1:=bc 36 0
noncomputable abbrev zgf:List Str:=["self","places"]
noncomputable abbrev jy:List Str:=["self","places"]
theorem zfc:z7 zgf jy (zq zc1):=by walk_at "a"
noncomputable abbrev zbv:=bc 37 0
noncomputable abbrev zem:List Str:=["self","pairs"]
noncomputable abbrev jg:List Str:=["self","pairs"]
theorem zdu:z7 zem jg (zq zbv):=by walk_at "a"
noncomputable abbrev zdg:=bc 36 1
noncomputable abbrev zkp:List Str:=["self","row","one","other","taken"]
noncomputable abbrev zaf:List Str:=["self","row","one","other"]
theorem ziv:z7 zkp zaf (zq zdg):=by walk_at "a"
noncomputable abbrev zbu:=bc 37 1
noncomputable abbrev zhj:List Str:=["self","row","one","other","known"]
noncomputable abbrev wg:List Str:=["self","row","one","other"]
theorem zgq:z7 zhj wg (zq zbu):=by walk_at "a"
noncomputable abbrev zrb:=bd 45
noncomputable abbrev zyu:List Str:=["row","one","other","signs","first","second","ahead","pair"]
noncomputable abbrev zmy:List Str:=["row","one","other"]
theorem zuw:z7 zyu zmy (zq zrb):=by walk_at "a"
noncomputable def zmm (C:Addr):Sp:=fun vs H Q _=>∃ (x dx a:Addr) (ps:List Int),vs=[.ref x,.ref a]/\H x=some (.ins C dx [])/\H a=some (.lst (ps.map V.int))/\∀ (fs:List (Str×V)) pl H',H pl=none->SameBut [x] H H'->zsf C H' x dx fs pl ps->Q .non H'
theorem zll (F:Fun K "__init__" "Mixed.__init__" zc1 f fd) (T:Blt mg) (zlq:Ins K yg) (zis:jb K yg "places"):qm P w K mg base CX0 1 f fd jy (zmm yg):=by
 refine F.ok zfc (fun vs H Q E h=>by obtain ⟨_,_,_,_,rfl,_⟩:=h;rfl) fun cdv A outer s H vs Q E hr h=>?_;obtain ⟨x,dx,a,ps,rfl,hx,ha,k⟩:=h;have nd:=zfc.nd;have hu:=hr.units;refine ⟨_,(zp (ze7 (pv 0) (lo T (pv 1)) rfl)),?_⟩;try simp only [ck1,ck2]
 rw [show L2.start zgf [V.ref x,V.ref a]=[some (V.ref x),some (V.ref a)] from rfl];walk_at "r";intro pl hpl;walk_at "r";have xpl:pl≠x:=Ne.symm (zj hx hpl);exact k _ pl _ hpl ((Same.upd_new hpl).but.upd (by simp)) ⟨zb,by simp only [jd];rfl,by simp only [jd];rfl,zf zb xpl⟩
noncomputable def zmn (C:Addr):Sp:=fun vs H Q _=>∃ (x dx a:Addr) (ts:List Addr) (ps:List (Int×Int)),vs=[.ref x,.ref a]/\H x=some (.ins C dx [])/\Prs H a ts ps/\∀ (fs:List (Str×V)) p H',H p=none->SameBut [x] H H'->zsm C H' x dx fs p ts ps->Q .non H'
theorem zju (F:Fun K "__init__" "Unmixed.__init__" zbv f fd) (T:Blt mg) (zbs:Ins K qw) (zhe:jb K qw "pairs"):qm P w K mg base CX0 1 f fd jg (zmn qw):=by
 refine F.ok zdu (fun vs H Q E h=>by obtain ⟨_,_,_,_,_,rfl,_⟩:=h;rfl) fun cdv A outer s H vs Q E hr h=>?_;obtain ⟨x,dx,a,ts,ps,rfl,hx,ha,k⟩:=h;have nd:=zdu.nd;have hu:=hr.units;have tx:∀ t∈ts,t≠x:=fun t ht e=>by
  obtain ⟨i,j,z⟩:=ha.mem ht;rw [e,hx] at z;cases z
 refine ⟨_,(zp (ze7 (pv 0) (lo T (pv 1)) rfl)),?_⟩;try simp only [ck1,ck2]
 rw [show L2.start zem [V.ref x,V.ref a]=[some (V.ref x),some (V.ref a)] from rfl];walk_at "r";refine z2a ha.at_ ?_;intro p hp;walk_at "r";have xp:p≠x:=Ne.symm (zj hx hp);refine k _ p _ hp ((Same.upd_new hp).but.upd (by simp)) ⟨zb,by simp only [jd];rfl,by simp only [jd];rfl,⟨zf zb xp,ha.len,fun i t ht=>zf (zu (ha.row i t ht) hp) (tx t (List.mem_of_getElem? ht))⟩⟩
theorem zot (F:Fun K "shows" "Mixed.shows" zdg f fd) (T:Blt mg) (zlq:Ins K yg) (zis:jb K yg "places")
  (uf:Cal K mg "stands_at" f1 fd1 yh) (ug:qm P w K mg base CX0 4 f1 fd1 yh (zbo K)):qm P w K mg base CX0 5 f fd zaf (zeu yg):=by
 refine F.ok ziv (fun vs H Q E h=>by obtain ⟨_,_,_,_,_,_,_,_,_,_,_,rfl,_⟩:=h;rfl) fun cdv A outer s H vs Q E hr h=>?_;obtain ⟨x,dx,fs,pl,ps,a,b,c,row,one,other,rfl,M,ha,hb,hc,n1,n2,n3,n4,k⟩:=h;obtain ⟨ob,fp,fn,hp⟩:=id M;have nd:=ziv.nd;have hu:=hr.units;have hu1:(A.deeper (envOfC "Mixed.shows" (zq zdg) s.heap.objs.size f cdv)).units+1<cLine:=by lia
 unfold Lf.mixed at k;refine ⟨_,(za (pif (yj (j5 (fcl ug hr uf (a3 (pv 1) (pv 2) (qg (pv 0) rfl))))))
  (za (sv 4 nd (ze9 (zvn rfl) rfl T.no_dict boot_dict (a1 (pcm (N:=["place"]) (caps:=[]) (qb (qg (pv 0) rfl)) (fun _ _ _ _=>⟨_,(yr (a2 (pv 0) zf5)),by walk_at "c"⟩)))))
  (zp (qx (ec (yp hu) (zlb (N:=["place","sign","taken"]) (k:=2) (caps:=[4]) (Block.of (by kernel_rfl)) rfl (zjv rfl T.no_enumerate boot_enumerate (a1 (pv 1))) (fun _ _ _ _=>⟨_,(zel (n:=2) rfl (jj (gv 0 (by show List.Nodup (["place","sign","taken"]:List Str);decide)) (jj (gv 1 (by show List.Nodup (["place","sign","taken"]:List Str);decide)) zb2))),by walk_at "c"⟩) (fun _ _ _ _=>⟨_,(zth.one (zl8 (zh3 hu1 (pv 0) (pv 2)) (by with_unfolding_all rfl))),by walk_at "c"⟩) (fun _ _ _ _=>⟨_,(pv 1),by walk_at "c"⟩)) (pv 3)))))),?_⟩
 try simp only [ck1,ck2]
 rw [show L2.start zkp [V.ref x,V.ref a,V.ref b,V.ref c]=[some (V.ref x),some (V.ref a),some (V.ref b),some (V.ref c),none] from rfl];walk_at "r";refine ⟨a,b,pl,row,one,ps,rfl,SqL.of ha,SqL.of hb,hp,by lia,fun H1 s1=>?_⟩;have ob1:=s1.at ob;have hp1:=s1.at hp;walk_at "r";refine zjn (fun h1=>?_) (fun h1=>?_)
 ·walk_at "r";rw [h1,Bool.false_and] at k;exact k _ s1
 rw [h1,Bool.true_and] at k;walk_at "r";refine zdf (wz (ns:=ps)) (fun y=>.tup [.int y,.bl true]) (fun H' s'=>SqL.of (s'.at hp1)) (by lia) ?_ ?_
 ·rintro i z x' H4 H5 R R' hi s4 ⟨rfl,rfl⟩ h4;walk_at "r";refine ⟨⟨rfl,rfl⟩,?_⟩;walk_at "r";intro p hp';exact h4 p _ (Same.upd_new hp') hp' zb
 intro D H2 ls hD s2 hd ll _ _ _ at';walk_at "r";refine z2k (kvs:=ps.map fun y=>((.inl y:Key),V.bl true)) hd (by rw [ll,List.length_map]) (by rw [List.length_map];lia) (fun i t ht=>?_) ?_
 ·obtain ⟨y,hy,q⟩:=at' i t ht;exact ⟨(.inl y,.bl true),by rw [List.getElem?_map,hy];rfl,q⟩
 intro d hd0;have s3:Same H (upd H2 d (.dK (zb3 [] (ps.map fun y=>((.inl y:Key),V.bl true))))):=(s1.trans s2).trans (Same.upd_new hd0);have hd3:(upd H2 d (.dK (zb3 [] (ps.map fun y=>((.inl y:Key),V.bl true))))) d=some (.dK (zb3 [] (ps.map fun y=>((.inl y:Key),V.bl true)))):=zb;generalize (upd H2 d (.dK (zb3 [] (ps.map fun y=>((.inl y:Key),V.bl true)))))=H3 at s3 hd3 ⊢;have ha3:=s3.at ha;have hc3:=s3.at hc;clear s1 s2 ob1 hp1 hd at';walk_at "r";refine zfb (zh5 (xs:=row)) (fun y=>!decide ((y.2:Int)∈ps)) (fun y=>y.1) (fun H' s'=>SqL.of (s'.at ha3)) (by rw [List.length_zipIdx];lia) ?_ ?_
 ·rintro i ⟨z,j⟩ x' H4 H5 R R' hi s4 ⟨T',hT,rfl,rfl⟩ h3 h4;have hd4:=zu (o:=.tup [.int (j:Nat),.int z]) (s4.at hd3) hT;have ht4:(upd H4 T' (.tup [.int (j:Nat),.int z])) T'=some (.tup [.int (j:Nat),.int z]):=zb;have s45:Same H4 (upd H4 T' (.tup [.int (j:Nat),.int z])):=Same.upd_new hT;simp only at hd4 ht4 s45 ⊢
  generalize upd H4 T' (.tup [.int (j:Nat),.int z])=H6 at hd4 ht4 s45 ⊢;walk_at "r";refine ⟨⟨rfl,rfl⟩,?_⟩;walk_at "r";refine z1o hd4 ?_;rw [if_pos rfl];have e:(zbr (zb3 [] (ps.map fun y=>((.inl y:Key),V.bl true))) (.inl (j:Int))).isSome=decide ((j:Int)∈ps):=by
   by_cases q:(j:Int)∈ps
   ·rw [decide_eq_true q];refine (zje _ _ _).mpr (.inr ?_);rw [List.map_map];exact List.mem_map.mpr ⟨_,q,rfl⟩
   ·rw [decide_eq_false q,Bool.eq_false_iff];intro z';rcases (zje _ _ _).mp z' with u|u
    ·cases u
    ·rw [List.map_map] at u;obtain ⟨y,hy,e⟩:=List.mem_map.mp u;exact q (by have e':y=(j:Int):=Sum.inl.inj e;rw [<- e'];exact hy)
  walk_at "r";rw [e];refine zjn (fun h5=>?_) (fun h5=>?_)
  ·walk_at "r";exact h3 (by rw [h5];rfl) _ s45
  ·exact h4 (by rw [h5];rfl) _ s45
 intro D2 H5 hD2 s5 hd5;have hc5:=s5.at hc3;walk_at "r";exact k _ (s3.trans s5)
theorem zmb (F:Fun K "shows" "Unmixed.shows" zbu f fd) (T:Blt mg) (zbs:Ins K qw) (zhe:jb K qw "pairs")
  (zs1:Cal K mg "are_counts" f1 fd1 zco) (zso:qm P w K mg base CX0 4 f1 fd1 zco zke)
  (zqf:Cal K mg "is_followed" f2 fd2 zb5) (zqg:qm P w K mg base CX0 4 f2 fd2 zb5 zi5):qm P w K mg base CX0 5 f fd wg (zc7 qw):=by
 refine F.ok zgq (fun vs H Q E h=>by obtain ⟨_,_,_,_,_,_,_,_,_,_,_,_,rfl,_⟩:=h;rfl) fun cdv A outer s H vs Q E hr h=>?_;obtain ⟨x,dx,fs,p,ts,ps,a,b,c,row,one,other,rfl,M,ha,hb,hc,n1,n2,n3,n4,k⟩:=h;obtain ⟨ob,fp,fn,hP⟩:=id M;have nd:=zgq.nd;have hu:=hr.units;have hu1:(A.deeper (envOfC "Unmixed.shows" (zq zbu) s.heap.objs.size f cdv)).units+1<cLine:=by lia
 have no:¬ Lf.z4e row one other ps->∀ H',Same H H'->Q (.bl false) H':=fun h H' s'=>by
  have:=k H' s';rw [Lf.za3 h] at this;exact this
 have lp:=hP.len;have pa:=hP.at_;refine ⟨_,(za (pif (PW.pt (zc6 (tc (za8 hu) (ln T (pv 1)) (z9 z8 (ln T (pv 2)) (ln T (pv 3)))) (zbd (yj (j5 (jk (zbx rfl) rfl T.no_all boot_all (a1 (pcm (N:=["pair","one","other"]) (caps:=[2,3]) (qb (qg (pv 0) rfl)) (fun _ _ _ _=>⟨_,(fcl zso hr zs1 (a3 (pv 0) (pv 1) (pv 2))),by walk_at "c"⟩))))))))))
  (za (sv 4 nd (ze9 (zvf rfl hu) rfl T.no_dict boot_dict (a1 (pcm (N:=["pair"]) (caps:=[]) (qb (qg (pv 0) rfl)) (fun _ _ _ _=>⟨_,(yr (a2 (pv 0) zf5)),by walk_at "c"⟩)))))
  (za (pif (PW.pt (zc6 (zl8 (zh3 hu1 (yr (a2 zc zc)) (pv 4)) (by with_unfolding_all rfl)) (zbd (zl8 (zur hu1 (yr (a2 (ln T (pv 2)) (ln T (pv 3)))) (pv 4)) (by with_unfolding_all rfl))))))
  (zp (qx (jk (zbx rfl) rfl T.no_all boot_all (a1 (pcm (N:=["pair","known","row","one","other"]) (caps:=[4,1,2,3]) (z3a (pv 4)) (fun _ _ _ _=>⟨_,(fcl zqg hr zqf (zm (pv 0) (zm (pv 1) (zm (pv 2) (zm (pv 3) (zm (pv 4) qu)))))),by walk_at "c"⟩))))))))),?_⟩
 try simp only [ck1,ck2]
 rw [show L2.start zhj [V.ref x,V.ref a,V.ref b,V.ref c]=[some (V.ref x),some (V.ref a),some (V.ref b),some (V.ref c),none] from rfl];walk_at "r";refine zdj (fun h1=>?_) (fun h1=>?_)
 ·walk_at "r";exact no (fun z=>h1 (by have:=z.len;lia)) _ (Same.refl _)
 have hlen:row.length=one.length+other.length:=by lia
 walk_at "r";refine comp_map (znu hP.len) (fun y=>.bl (decide ((0<=y.2.1/\y.2.1<=(one.length:Int))/\0<=y.2.2/\y.2.2<=(other.length:Int)))) (fun H' s'=>hP.same s') (by rw [List.length_zip];lia) ?_ ?_
 ·rintro n ⟨u,v⟩ x' H5 H6 R R' hi s5 ⟨rfl,rfl,hu'⟩ h5;walk_at "r";refine ⟨⟨rfl,rfl⟩,?_⟩;walk_at "r";exact ⟨u,b,c,v.1,v.2,one,other,rfl,hu',s5.at hb,s5.at hc,h5 _ (Same.refl _)⟩
 intro D H1 hD s1 hd;walk_at "r";refine zoy (l:=ts.zip ps) (g:=fun y=>decide ((0<=y.2.1/\y.2.1<=(one.length:Int))/\0<=y.2.2/\y.2.2<=(other.length:Int))) (SqL.of hd) ?_;have ez:ps=(ts.zip ps).map (·.2):=by rw [List.map_snd_zip (by rw [lp];exact Nat.le_refl _)]
 have e1:(ts.zip ps).all (fun y=>decide ((0<=y.2.1/\y.2.1<=(one.length:Int))/\0<=y.2.2/\y.2.2<=(other.length:Int)))=ps.all fun q=>decide ((0<=q.1/\q.1<=(one.length:Int))/\0<=q.2/\q.2<=(other.length:Int)):=by
  conv=>rhs;rw [ez]
  rw [List.all_map];rfl
 rw [e1];have ob1:=s1.at ob;have P1:=hP.same s1;have pa1:=P1.at_;walk_at "r";refine zjn (fun h2=>?_) (fun h2=>?_)
 ·walk_at "r";refine no (fun z=>?_) _ s1;rw [Bool.eq_false_iff] at h2;refine h2 (List.all_eq_true.mpr fun q hq=>decide_eq_true ?_);have:=z.all q hq;exact ⟨⟨this.i0,this.i1⟩,this.j0,this.j1⟩
 have hbox:∀ q∈ps,Lf.Box one other q:=fun q hq=>by
  obtain ⟨⟨z1,z2⟩,z3,z4⟩:=of_decide_eq_true (List.all_eq_true.mp h2 q hq);exact ⟨z1,z2,z3,z4⟩
 walk_at "r";refine zdf (znu P1.len) (fun y=>.tup [.ref y.1,.bl true]) (fun H' s'=>P1.same s') (by rw [List.length_zip];lia) ?_ ?_
 ·rintro i ⟨u,v⟩ x' H4 H5 R R' hi s4 ⟨rfl,rfl,hu'⟩ h4;walk_at "r";refine ⟨⟨rfl,rfl⟩,?_⟩;walk_at "r";intro q hq;exact h4 q _ (Same.upd_new hq) hq zb
 intro D2 H2 ls hD2 s2 hd2 ll _ _ _ at';walk_at "r";refine z3m (kvs:=ps.map fun q=>(kPp q,V.bl true)) hd2 (by rw [ll,List.length_zip,lp,Nat.min_self,List.length_map]) (by rw [List.length_map];lia) (fun i t ht=>?_) ?_
 ·obtain ⟨y,hy,q⟩:=at' i t ht;obtain ⟨z1,z2⟩:=List.getElem?_eq_some_iff.mp hy;rw [List.length_zip] at z1;have i1:i<ts.length:=by lia
  have i2:i<ps.length:=by lia
  rw [List.getElem_zip] at z2;subst z2;refine ⟨(kPp ps[i],.bl true),ts[i],by rw [List.getElem?_map,List.getElem?_eq_getElem i2];rfl,q,?_⟩;have:=(P1.same s2).row i ts[i] (by simp [i1]);rw [List.getD_eq_getElem?_getD,List.getElem?_eq_getElem i2] at this;exact this
 intro d hd0;have s3:Same H (upd H2 d (.dT (zai [] (ps.map fun q=>(kPp q,V.bl true))))):=(s1.trans s2).trans (Same.upd_new hd0);have hd3:(upd H2 d (.dT (zai [] (ps.map fun q=>(kPp q,V.bl true))))) d=some (.dT (zai [] (ps.map fun q=>(kPp q,V.bl true)))):=zb;have d00:H d=none:=(s1.trans s2).free hd0;generalize (upd H2 d (.dT (zai [] (ps.map fun q=>(kPp q,V.bl true)))))=H3 at s3 hd3 ⊢;have val:∀ q:Int×Int,(zbr (zai [] (ps.map fun q=>(kPp q,V.bl true))) (kPp q)).isSome=decide (q∈ps):=fun q=>by
  by_cases z:q∈ps
  ·rw [decide_eq_true z];refine (zjo _ _ _).mpr (.inr ?_);rw [List.map_map];exact List.mem_map.mpr ⟨q,z,rfl⟩
  ·rw [decide_eq_false z,Bool.eq_false_iff];intro z';rcases (zjo _ _ _).mp z' with u|u
   ·cases u
   ·rw [List.map_map] at u;obtain ⟨y,hy,e⟩:=List.mem_map.mp u;have e':y=q:=zrk.mp e;exact z (e'▸hy)
 have keys:∀ kv∈zai [] (ps.map fun q=>(kPp q,V.bl true)),∃ q∈ps,kv.1=kPp q:=fun kv hkv=>by
  rcases zn0 _ _ kv.1 (List.mem_map.mpr ⟨kv,hkv,rfl⟩) with u|u
  ·simp at u
  ·rw [List.map_map] at u;obtain ⟨y,hy,e⟩:=List.mem_map.mp u;exact ⟨y,hy,e.symm⟩
 have mlen:(zai [] (ps.map fun q=>(kPp q,V.bl true))).length<=100000:=by
  have:=zh8 (ps.map fun q=>(kPp q,V.bl true)) [];rw [List.length_map,List.length_nil] at this;lia
 generalize zai [] (ps.map fun q=>(kPp q,V.bl true))=kvs at hd3 val keys mlen ⊢;clear s1 s2 ob1 P1 pa1 hd2 at' hd;have hb3:=s3.at hb;have hc3:=s3.at hc;walk_at "r";intro z0 hz0;walk_at "r";refine zpx (zu hd3 hz0) zb ?_;walk_at "r";rw [if_pos rfl,val (0,0)];refine zdj (fun h3=>?_) (fun h3=>?_)
 ·walk_at "r";exact no (fun z=>h3 z.first) _ (s3.trans (Same.upd_new hz0))
 walk_at "r";have s4:Same H (upd H3 z0 (.tup [.int 0,.int 0])):=s3.trans (Same.upd_new hz0);have hd4:(upd H3 z0 (.tup [.int 0,.int 0])) d=some (.dT kvs):=zu hd3 hz0;generalize upd H3 z0 (.tup [.int 0,.int 0])=H4 at s4 hd4 ⊢;clear s3 hd3 hb3 hc3 hz0;have hb4:=s4.at hb;have hc4:=s4.at hc;walk_at "r";intro z1 hz1;walk_at "r";refine zpx (zu hd4 hz1) zb ?_;rw [if_neg Bool.false_ne_true,val ((one.length:Int),(other.length:Int))];walk_at "r";refine zaq (fun h5=>?_) (fun h5=>?_)
 ·walk_at "r";exact no (fun z=>z.last h5) _ (s4.trans (Same.upd_new hz1))
 have s5:Same H (upd H4 z1 (.tup [.int (one.length:Nat),.int (other.length:Nat)])):=s4.trans (Same.upd_new hz1);have hd5:(upd H4 z1 (.tup [.int (one.length:Nat),.int (other.length:Nat)])) d=some (.dT kvs):=zu hd4 hz1;generalize upd H4 z1 (.tup [.int (one.length:Nat),.int (other.length:Nat)])=H5 at s5 hd5 ⊢;clear s4 hd4 hb4 hc4 hz1;walk_at "r";refine z85 hd5 fun o=>?_;have s6:Same H (upd H5 d (.frz o (.dT kvs))):=zch s5 d00;have hd6:(upd H5 d (.frz o (.dT kvs))) d=some (.frz o (.dT kvs)):=zb;generalize upd H5 d (.frz o (.dT kvs))=H6 at s6 hd6 ⊢;clear s5 hd5;refine comp_map z39 (fun kv=>.bl (match kv.1 with|[.inl i,.inl j]=>(Lf.zbb row one other (i,j)).all fun q=>decide (q∈ps)|_=>true)) (fun H' s'=>s'.at hd6) (by lia) ?_ ?_
 ·rintro n kv x' H7 H8 R R' hi s7 ⟨t,rfl,rfl,ht⟩ h7;obtain ⟨⟨i,j⟩,hq,ekv⟩:=keys kv (List.mem_of_getElem? hi);rw [ekv] at ht h7;have ht':H8 t=some (.tup [.int i,.int j]):=ht;have s67:=s6.trans s7;walk_at "r";refine ⟨⟨rfl,rfl⟩,?_⟩;walk_at "r";refine ⟨t,d,a,b,c,o,kvs,i,j,row,one,other,rfl,ht',s7.at hd6,s67.at ha,s67.at hb,s67.at hc,hbox _ hq,hlen,fun H9 s9=>?_⟩;have e:((Lf.zbb row one other (i,j)).all fun q=>(zbr kvs (kP q.1 q.2)).isSome)=(Lf.zbb row one other (i,j)).all fun q=>decide (q∈ps):=by
   congr 1
   funext q
   exact val q
  rw [e];exact h7 _ s9
 intro D3 H7 hD3 s7 hd7;walk_at "r";refine zoy (l:=kvs) (g:=fun kv=>(match kv.1 with|[.inl i,.inl j]=>(Lf.zbb row one other (i,j)).all fun q=>decide (q∈ps)|_=>true)) (SqL.of hd7) ?_;have e:(kvs.all fun kv=>(match kv.1 with|[.inl i,.inl j]=>(Lf.zbb row one other (i,j)).all fun q=>decide (q∈ps)|_=>true))=Lf.zc0 row one other ps:=by
  by_cases U:Lf.z4e row one other ps
  ·rw [Lf.zg5 U,List.all_eq_true];intro kv hkv;obtain ⟨⟨i,j⟩,hq,ekv⟩:=keys kv hkv;rw [ekv];show ((Lf.zbb row one other (i,j)).all fun q=>decide (q∈ps))=true
   rw [List.all_eq_true];intro q hq';have u:=U.all _ hq;refine decide_eq_true ?_;rcases Lf.zg8.mp hq' with ⟨c1,c2,rfl⟩|⟨c1,c2,rfl⟩
   ·exact u.nx c1 c2
   ·exact u.ny c1 c2
  ·rw [Lf.za3 U,Bool.eq_false_iff];intro z;rw [List.all_eq_true] at z;refine U ⟨hlen,h3,h5,fun q hq=>?_⟩;obtain ⟨i,j⟩:=q;have hs:(zbr kvs (kPp (i,j))).isSome=true:=by rw [val];exact decide_eq_true hq
   obtain ⟨kv,hkv,ekv⟩:=z0o hs;have zz:=z kv hkv;rw [ekv] at zz;have zz:((Lf.zbb row one other (i,j)).all fun q=>decide (q∈ps))=true:=zz;rw [List.all_eq_true] at zz;obtain ⟨b1,b2,b3,b4⟩:=hbox _ hq;exact ⟨b1,b2,b3,b4,fun c1 c2=>of_decide_eq_true (zz _ (Lf.zg8.mpr (.inl ⟨c1,c2,rfl⟩))),fun c1 c2=>of_decide_eq_true (zz _ (Lf.zg8.mpr (.inr ⟨c1,c2,rfl⟩)))⟩
 rw [e];exact k _ (s6.trans s7)
theorem z0c (F:Fun K "mixed" "mixed" zrb f fd) (T:Blt mg)
  (je:Cal K mg "checked_row" f1 fd1 jq) (jf:qm P w K mg base CX0 3 f1 fd1 jq zan)
  (znm:Cal K mg "pairs_reached" f2 fd2 zat) (zm0:qm P w K mg base CX0 3 f2 fd2 zat zgl)
  (znz:Cal K mg "places_on_way" f3 fd3 zas) (zmz:qm P w K mg base CX0 3 f3 fd3 zas (zgd K))
  (zmt:Mak K mg "Mixed" yg f4 fd4 jy) (zal:qm P w K mg base CX0 1 f4 fd4 jy (zmm yg))
  (zcm:Mak K mg "Unmixed" qw f5 fd5 jg) (jt:qm P w K mg base CX0 1 f5 fd5 jg (zmn qw))
  : qm P w K mg base CX0 4 f fd zmy (zqq yg qw):=by
 refine F.ok zuw (fun vs H Q E h=>by obtain ⟨_,_,_,_,_,_,rfl,_⟩:=h;rfl) fun cdv A outer s H vs Q E hr h=>?_;obtain ⟨a,b,c,row,one,other,rfl,ha,hb,hc,l1,l2,l3,hl,k1,k2⟩:=h;have nd:=zuw.nd;have hu:=hr.units;have hu1:(A.deeper (envOfC "mixed" (zq zrb) s.heap.objs.size f cdv)).units+1<cLine:=by lia
 refine ⟨_,(za (sv 3 nd (fcl jf hr je (a1 (pv 0))))
  (za (sv 4 nd (fcl jf hr je (a1 (pv 1))))
  (za (sv 5 nd (fcl jf hr je (a1 (pv 2))))
  (za (zc2 (tc (za8 hu) (ln T (pv 3)) (z9 z8 (ln T (pv 4)) (ln T (pv 5)))) (zp zqn) vm)
  (za (sv 6 nd (fcl zm0 hr znm (a3 (pv 3) (pv 4) (pv 5))))
  (za (sv 7 nd (yr (a2 (ln T (pv 4)) (ln T (pv 5)))))
  (za (zc2 (zl8 (zur hu1 (pv 7) (pv 6)) (by with_unfolding_all rfl)) (zp (qx (fmk zmt zal hr (a1 (fcl zmz hr znz (a2 (pv 6) (pv 7))))))) vm)
  (zp (qx (fmk zcm jt hr (a1 (ze9 (zq9 rfl) rfl T.no_list boot_list (a1 (pv 6)))))))))))))),?_⟩
 try simp only [ck1,ck2]
 rw [show L2.start zyu [V.ref a,V.ref b,V.ref c]=[some (V.ref a),some (V.ref b),some (V.ref c),none,none,none,none,none] from rfl];walk_at "r";refine ⟨a,row,rfl,ha,by lia,fun a2 H1 ha2 s1 h1=>?_⟩;walk_at "r";refine ⟨b,one,rfl,s1.at hb,by lia,fun b2 H2 hb2 s2 h2=>?_⟩;walk_at "r";refine ⟨c,other,rfl,s2.at (s1.at hc),by lia,fun c2 H3 hc2 s3 h3=>?_⟩;have s03:Same H H3:=(s1.trans s2).trans s3;have a3:=s3.at (s2.at h1);have b3:=s3.at h2;clear s1 s2 s3 h1 h2 ha2 hb2 hc2;walk_at "r";refine zdj (fun h5=>absurd (by lia) h5) (fun h5=>?_);walk_at "r";refine ⟨a2,b2,c2,row,one,other,rfl,a3,b3,h3,hl,l2,l3,fun d kvs ps par H4 hd s4 hd4 ek A4 B4=>?_⟩;have s04:=s03.trans s4;have b4:=s4.at b3;have c4:=s4.at h3;clear s03 s4 a3 b3 h3;walk_at "r";intro t ht;have s5:Same H (upd H4 t (.tup [.int (one.length:Nat),.int (other.length:Nat)])):=s04.trans (Same.upd_new ht);have hd5:(upd H4 t (.tup [.int (one.length:Nat),.int (other.length:Nat)])) d=some (.dT kvs):=zu hd4 ht;have ht5:(upd H4 t (.tup [.int (one.length:Nat),.int (other.length:Nat)])) t=some (.tup [.int (one.length:Nat),.int (other.length:Nat)]):=zb;have A5:zji (upd H4 t (.tup [.int (one.length:Nat),.int (other.length:Nat)])) kvs par:=A4.same fun u xs e=>zu e ht;generalize upd H4 t (.tup [.int (one.length:Nat),.int (other.length:Nat)])=H5 at s5 hd5 ht5 A5 ⊢;clear s04 hd4 A4 ht b4 c4;walk_at "r";refine zpx hd5 ht5 ?_;rw [if_neg Bool.false_ne_true,show (zbr kvs (kP (one.length:Int) (other.length:Int))).isSome=(par ((one.length:Int),(other.length:Int))).isSome from A5.some_iff ((one.length:Int),(other.length:Int))];walk_at "r";refine zu8 (fun h6=>?_) (fun h6=>?_)
 ·have hin:=(B4.keys _).mp h6;walk_at "r";refine ⟨d,t,kvs,ps,par,_,row,one,other,rfl,hd5,ht5,A5,B4,hin,hl,by lia,fun l pl H6 hl6 s6 h7 hM=>?_⟩;walk_at "r";intro x dx hx hdx xdx;have s06:=s5.trans s6;have hD6:∀ {z o},H6 z=some o->(upd (upd H6 dx (.own x)) x (.ins yg dx [])) z=some o:=fun {z o} hz=>zf (zu hz hdx) (zj hz hx);refine ⟨x,dx,l,pl,rfl,zb,hD6 h7,fun fs pl' H7 hp' s7 MA=>⟨rfl,?_⟩⟩;refine k1 x dx fs pl' pl H7 (s06.free hx) (s06.free (zy (zy hp'))) ?_ MA hM;intro z o hz;exact s7 z o (hD6 (s06 _ _ hz)) (by simpa using zj hz (s06.free hx))
 ·have hlk:kvs.length=ps.length:=by have:=congrArg List.length ek;simpa using this
  have bl:=B4.len;have big:(one.length+1)*(other.length+1)<=101*101:=Nat.mul_le_mul (by lia) (by lia);walk_at "r";refine ⟨d,kvs,rfl,hd5,fun l ts hl5 hts hat=>?_⟩;have P6:Prs (upd H5 l (.lst (ts.map V.ref))) l ts ps:=by
   refine ⟨zb,by lia,fun i u hu'=>?_⟩;obtain ⟨kv,h1,h2⟩:=hat i u hu';have i2:i<ps.length:=by have:=(List.getElem?_eq_some_iff.mp hu').1;lia
   have e:=congrArg (fun z:List (List Key)=>z[i]?) ek;simp only [List.getElem?_map,h1,List.getElem?_eq_getElem i2,Option.map_some] at e;have e:kv.1=kPp ps[i]:=Option.some.inj e;rw [e] at h2;rw [List.getD_eq_getElem?_getD,List.getElem?_eq_getElem i2];exact zu h2 hl5
  have s6:Same H (upd H5 l (.lst (ts.map V.ref))):=s5.trans (Same.upd_new hl5);generalize upd H5 l (.lst (ts.map V.ref))=H6 at P6 s6 ⊢;walk_at "r";intro x dx hx hdx xdx;have hD6:∀ {z o},H6 z=some o->(upd (upd H6 dx (.own x)) x (.ins qw dx [])) z=some o:=fun {z o} hz=>zf (zu hz hdx) (zj hz hx);refine ⟨x,dx,l,ts,ps,rfl,zb,⟨hD6 P6.at_,P6.len,fun i u hu'=>hD6 (P6.row i u hu')⟩,fun fs p' H7 hp' s7 UA=>⟨rfl,?_⟩⟩;refine k2 x dx fs p' ts ps H7 (s6.free hx) (s6.free (zy (zy hp'))) ?_ UA (by lia);intro z o hz;exact s7 z o (hD6 (s6 _ _ hz)) (by simpa using zj hz (s6.free hx))
noncomputable abbrev zls:=bd 47
noncomputable abbrev zpe:List Str:=["_law_cells","_law_code","_law_most"]
noncomputable abbrev zfi:List Str:=["_law_cells","_law_code"]
theorem znt:z7 zpe zfi (zq zls):=by walk_at "a"
noncomputable def zm2 (K:PySem.W.Frag):Sp:=fun vs H Q _=>∃ (a:Addr) (cells:List Int) (code:Int),vs=[.ref a,.int code]/\SqL K H a (cells.map V.int)/\cells.length<=1000000/\∀ p H',H p=none->Same H H'->H' p=some (.lst ((Lf.z10 cells code).map V.int))->Q (.ref p) H'
theorem z3l (code:Int):atI [V.int 2,V.int 3,V.int 5,V.int (10 ^ (30:Int).toNat)] (code%4)=some (V.int (Lf.most code)):=by
 have h:code%4=0\/code%4=1\/code%4=2\/code%4=3:=by lia
 unfold Lf.most;rcases h with h|h|h|h<;>rw [h]<;>rfl
theorem zte (F:Fun K "_law_row" "_law_row" zls f fd) (T:Blt mg):qm P w K mg base CX0 1 f fd zfi (zm2 K):=by
 refine F.ok znt (fun vs H Q E h=>by obtain ⟨_,_,_,rfl,_⟩:=h;rfl) fun cdv A outer s H vs Q E hr h=>?_;obtain ⟨a,cells,code,rfl,ha,hn,k⟩:=h;have nd:=znt.nd;have hu:=hr.units;refine ⟨_,(za (sv 2 nd (px (yr (zm zc (zm zc (zm zc (zm (z9 z2j zc zc) qu))))) (z9 zcb (pv 1) zc)))
  (za (zc2 (tc (yp hu) (z9 zcb (z9 zjk (pv 1) zc) zc) zc) (zp (qx (pcm (N:=["_law_cell","_law_most"]) (caps:=[2]) (qb (pv 0)) (fun _ _ _ _=>⟨_,(z9 z3p (z9 zak (z9 zcb (pv 0) (pv 1)) zc) (z9 z2j zc zc)),by walk_at "c"⟩)))) vm)
  (zp (qx (pcm (N:=["_law_cell","_law_most"]) (caps:=[2]) (qb (pv 0)) (fun _ _ _ _=>⟨_,(z9 zcb (pv 0) (pv 1)),by walk_at "c"⟩)))))),?_⟩
 try simp only [ck1,ck2]
 rw [show L2.start zpe [V.ref a,V.int code]=[some (V.ref a),some (V.int code),none] from rfl];walk_at "r";intro p hp;walk_at "r";refine zlh (by walk_at "f") (z3l code) ?_;have s1:Same H (upd H p (.tup [V.int 2,V.int 3,V.int 5,V.int (10 ^ (30:Int).toNat)])):=Same.upd_new hp;have mp:=Lf.z0z code;have ml:=Lf.z3o code;walk_at "r";refine zaq (fun h=>?_) (fun h=>?_)
 ·walk_at "r";refine comp_map (wz (ns:=cells)) (fun c=>.int ((c%Lf.most code-1)*10 ^ 30)) (fun H' s'=>(s1.trans s').seq ha) hn ?_ ?_
  ·rintro i z x H3 H4 R R' hi s3 ⟨rfl,rfl⟩ h1;walk_at "r";refine ⟨⟨rfl,rfl⟩,?_⟩;walk_at "r";refine z9p (zzt ?_ ?_) ?_
   ·have a1:=Int.emod_nonneg z (Int.ne_of_gt mp);have a2:=Int.emod_lt_of_pos z mp;have a4:(10:Int) ^ 30<(2 ^ 200:Nat):=by decide
    lia
   ·decide
   ·walk_at "r";exact h1 _ (Same.refl _)
  ·intro D H' hD s' hd;walk_at "r";refine k D H' ((s1).free hD) (s1.trans s') ?_;rw [hd];unfold Lf.z10;rw [if_pos h];rw [List.map_map];rfl
 ·walk_at "r";refine comp_map (wz (ns:=cells)) (fun c=>.int (c%Lf.most code)) (fun H' s'=>(s1.trans s').seq ha) hn ?_ ?_
  ·rintro i z x H3 H4 R R' hi s3 ⟨rfl,rfl⟩ h1;walk_at "r";refine ⟨⟨rfl,rfl⟩,?_⟩;walk_at "r";exact h1 _ (Same.refl _)
  ·intro D H' hD s' hd;walk_at "r";refine k D H' ((s1).free hD) (s1.trans s') ?_;rw [hd];unfold Lf.z10;rw [if_neg h];rw [List.map_map];rfl
noncomputable abbrev zfo:=bd 48
noncomputable abbrev zkn:List Str:=["_law_row_here","_law_places","_law_other","_law_last","_law_place","_law_sign"]
noncomputable abbrev jn:List Str:=["_law_row_here","_law_places","_law_other"]
theorem zil:z7 zkn jn (zq zfo):=by walk_at "a"
noncomputable def zam (K:PySem.W.Frag):Sp:=fun vs H Q _=>∃ (a b c:Addr) (row ps other:List Int),vs=[.ref a,.ref b,.ref c]/\SqL K H a (row.map V.int)/\SqL K H b (ps.map V.int)/\SqL K H c (other.map V.int)/\∀ H',Same H H'->Q (.bl (Lf.stands row ps other)) H'
theorem zov (F:Fun K "_law_stands" "_law_stands" zfo f fd) (T:Blt mg):qm P w K mg base CX0 1 f fd jn (zam K):=by
 refine F.ok zil (fun vs H Q E h=>by obtain ⟨_,_,_,_,_,_,rfl,_⟩:=h;rfl) fun cdv A outer s H vs Q E hr h=>?_;obtain ⟨a,b,c,row,ps,other,rfl,ha,hb,hc,k⟩:=h;have nd:=zil.nd;have hu:=hr.units;refine ⟨_,(za (pif (tc (za8 hu) (ln T (pv 1)) (ln T (pv 2))))
  (za (sv 3 nd (zdh zao zc))
  (za (vq PassesOwn.never rfl (zzm rfl T.no_zip boot_zip (a2 (pv 1) (pv 2))) (zel (n:=2) rfl (jj (gv 4 nd) (jj (gv 5 nd) zb2))) (za (pif (PW.pt (zc6 (yj (zkg zgu zgu (pv 3) (pv 4) (ln T (pv 0)))) (zbd (tc (za8 hu) (px (pv 0) (pv 4)) (pv 5))))))
  (zp (sv 3 nd (pv 4)))))
  (zp (qx zf5))))),?_⟩
 try simp only [ck1,ck2]
 rw [show L2.start zkn [V.ref a,V.ref b,V.ref c]=[some (V.ref a),some (V.ref b),some (V.ref c),none,none,none] from rfl];walk_at "r";refine zdj (fun h=>?_) (fun h=>?_)
 ·walk_at "r";have e:Lf.stands row ps other=false:=by
   unfold Lf.stands;have:¬ ps.length=other.length:=by lia
   simp [this]
  rw [<- e];exact k _ (Same.refl _)
 ·have hl:ps.length=other.length:=by lia
  walk_at "r";refine vf (zt4 (xs:=ps) (ys:=other)) (fun i σ H2=>∃ (last:Int) (v4 v5:Option V),σ=[some (.ref a),some (.ref b),some (.ref c),some (.int last),v4,v5]/\Same H H2/\-1<=last/\Lf.jw row (-1) ps other=Lf.jw row last (ps.drop i) (other.drop i)) ?_ ?_ ?_ ?_
  ·exact ⟨-1,none,none,rfl,Same.refl _,by lia,rfl⟩
  ·rintro i σ H2 _ ⟨_,_,_,_,s2,_⟩;exact ⟨s2.seq hb,s2.seq hc⟩
  ·rintro i ⟨p,x⟩ xv σ H2 H3 hy ⟨last,v4,v5,rfl,s2,hl1,inv⟩ ⟨T',hT,rfl,rfl⟩;obtain ⟨e1,e2⟩:=List.getElem?_zip_eq_some.mp hy;have step:Lf.jw row last (ps.drop i) (other.drop i)=(decide (last<p)&&decide (p<(row.length:Int))&&decide (row.getD p.toNat 0=x)&&Lf.jw row p (ps.drop (i+1)) (other.drop (i+1))):=by
    obtain ⟨l1,e1⟩:=List.getElem?_eq_some_iff.mp e1;obtain ⟨l2,e2⟩:=List.getElem?_eq_some_iff.mp e2;rw [List.drop_eq_getElem_cons l1,List.drop_eq_getElem_cons l2,e1,e2];rfl
   have st:Lf.stands row ps other=Lf.jw row last (ps.drop i) (other.drop i):=by
    unfold Lf.stands;rw [inv];simp [hl]
   have bad:(decide (last<p)&&decide (p<(row.length:Int))&&decide (row.getD p.toNat 0=x))=false->∀ H',Same H H'->Q (.bl false) H':=fun e H' s'=>by
    have:=k H' s';rw [st,step,e,Bool.false_and] at this;exact this
   have s3:Same H (upd H2 T' (.tup [V.int p,V.int x])):=s2.trans (Same.upd_new hT);walk_at "r";refine zaq (fun h1=>?_) (fun h1=>?_)
   ·walk_at "r";refine zdj (fun h2=>?_) (fun h2=>?_)
    ·walk_at "r";exact bad (by rw [decide_eq_false h2,Bool.and_false,Bool.false_and]) _ s3
    ·walk_at "r";refine zah (by walk_at "f") (by lia) (by lia) ?_;walk_at "r";refine zdj (fun h3=>?_) (fun h3=>?_)
     ·walk_at "r";exact bad (by rw [decide_eq_false h3,Bool.and_false]) _ s3
     ·walk_at "r";refine ⟨p,_,_,rfl,s3,by lia,?_⟩;rw [inv,step,decide_eq_true h1,decide_eq_true h2,decide_eq_true h3];simp only [Bool.true_and]
   ·walk_at "r";exact bad (by rw [decide_eq_false h1,Bool.false_and,Bool.false_and]) _ s3
  ·rintro σ H2 ⟨last,v4,v5,rfl,s2,hl1,inv⟩;walk_at "r";have e:Lf.stands row ps other=true:=by
    unfold Lf.stands;rw [inv,List.length_zip,hl];simp [Lf.jw,<- hl]
   rw [<- e];exact k _ s2
noncomputable abbrev ze0:=bd 49
noncomputable abbrev zim:List Str:=["_law_row_here","_law_other","_law_rest","_law_sign"]
noncomputable abbrev zba:List Str:=["_law_row_here","_law_other"]
theorem zg9:z7 zim zba (zq ze0):=by walk_at "a"
noncomputable def zhs (K:PySem.W.Frag):Sp:=fun vs H Q _=>∃ (a b:Addr) (row other:List Int),vs=[.ref a,.ref b]/\SqL K H a (row.map V.int)/\SqL K H b (other.map V.int)/\∀ H',Same H H'->Q (.bl (Lf.isLeft row other)) H'
theorem zod (F:Fun K "_law_is_left" "_law_is_left" ze0 f fd) (T:Blt mg):qm P w K mg base CX0 1 f fd zba (zhs K):=by
 refine F.ok zg9 (fun vs H Q E h=>by obtain ⟨_,_,_,_,rfl,_⟩:=h;rfl) fun cdv A outer s H vs Q E hr h=>?_;obtain ⟨a,b,row,other,rfl,ha,hb,k⟩:=h;have nd:=zg9.nd;have hu:=hr.units;refine ⟨_,(za (sv 2 nd (lo T (pv 1)))
  (za (vq PassesOwn.never rfl (qb (zbt (pv 0) q9 q9 (zdh zao zc))) (gv 3 nd) (zp (zc2 (PW.pt (zc8 (tc (za8 hu) (pv 2) (zr qu)) (zd2 (tc (yp hu) (px (pv 2) (zdh zao zc)) (pv 3))))) (zp (zgz (zza PySem.F.plainAttrs_list PySem.F.slot_list_pop PySem.F.type_list_pop z59 (pv 2)))) vm)))
  (zp (qx (ec (yp hu) (pv 2) (zr qu)))))),?_⟩
 try simp only [ck1,ck2]
 rw [show L2.start zim [V.ref a,V.ref b]=[some (V.ref a),some (V.ref b),none,none] from rfl];walk_at "r";intro r hr0;walk_at "r";intro q hq;walk_at "r";have qr:q≠r:=fun e=>by subst e;rw [zb] at hq;cases hq
 refine vf (wz (ns:=row.reverse)) (fun i σ H2=>∃ (rest:List Int) (v3:Option V),σ=[some (.ref a),some (.ref b),some (.ref r),v3]/\Same H H2/\H2 r=some (.lst (rest.map V.int))/\H2 q=some (.lst (row.reverse.map V.int))/\Lf.strike row.reverse other.reverse=Lf.strike (row.reverse.drop i) rest.reverse) ?_ ?_ ?_ ?_
 ·exact ⟨other,none,rfl,by walk_at "s",by walk_at "f",by walk_at "f",rfl⟩
 ·rintro i σ H2 _ ⟨_,_,_,_,_,h,_⟩;exact SqL.of h
 ·rintro i z x σ H2 H3 hy ⟨rest,v3,rfl,s2,h2,hq2,inv⟩ ⟨rfl,rfl⟩;have step:Lf.strike (row.reverse.drop i) rest.reverse=Lf.strike (row.reverse.drop (i+1)) (match rest.reverse with|[]=>[]|x::r=>if x=z then r else x::r):=by
   obtain ⟨l1,e1⟩:=List.getElem?_eq_some_iff.mp hy;rw [List.drop_eq_getElem_cons l1,e1];rfl
  walk_at "r";intro n hn;walk_at "r";refine zdj (fun h=>?_) (fun h=>?_)
  ·walk_at "r";refine zuu (by walk_at "f") h ?_;walk_at "r";have er:rest.reverse=rest.getLast h::rest.dropLast.reverse:=by
    conv=>lhs;rw [<- List.dropLast_concat_getLast h]
    simp
   refine zaq (fun h1=>?_) (fun h1=>?_)
   ·walk_at "r";refine z6s (by walk_at "f") h ?_;walk_at "r";refine ⟨rest.dropLast,_,rfl,by walk_at "s",by walk_at "f",by walk_at "f",?_⟩;rw [inv,step,er];simp only [h1,if_true]
   ·walk_at "r";refine ⟨rest,_,rfl,by walk_at "s",by walk_at "f",by walk_at "f",?_⟩;rw [inv,step,er];simp only [h1,if_false]
  ·walk_at "r";subst h;refine ⟨[],_,rfl,by walk_at "s",by walk_at "f",by walk_at "f",?_⟩;rw [inv,step];rfl
 ·rintro σ H2 ⟨rest,v3,rfl,s2,h2,hq2,inv⟩;walk_at "r";intro n hn;walk_at "r";have e:Lf.isLeft row other=decide (rest=[]):=by
   unfold Lf.isLeft;rw [inv,List.drop_length];cases rest with
   |nil=>rfl
   |cons x r=>simp [Lf.strike]
  rw [<- e];exact k _ (by walk_at "s")
noncomputable abbrev zh2:=bd 50
noncomputable abbrev zlx:List Str:=["_law_row_here","_law_other","_law_places","_law_many","_law_ends","_law_at","_law_begin"]
noncomputable abbrev zck:List Str:=["_law_row_here","_law_other","_law_places"]
theorem zk0:z7 zlx zck (zq zh2):=by walk_at "a"
noncomputable def zka (K:PySem.W.Frag):Sp:=fun vs H Q _=>∃ (a b c:Addr) (row other ps:List Int),vs=[.ref a,.ref b,.ref c]/\SqL K H a (row.map V.int)/\SqL K H b (other.map V.int)/\H c=some (.lst (ps.map V.int))/\other.length<=100000/\∀ H',Same H H'->Q (.bl (Lf.short row other ps)) H'
theorem zqp (F:Fun K "_law_short" "_law_short" zh2 f fd) (T:Blt mg) (xg:Cal K mg "_law_stands" f2 fd2 jn) (xu:qm P w K mg base CX0 1 f2 fd2 jn (zam K)):qm P w K mg base CX0 2 f fd zck (zka K):=by
 refine F.ok zk0 (fun vs H Q E h=>by obtain ⟨_,_,_,_,_,_,rfl,_⟩:=h;rfl) fun cdv A outer s H vs Q E hr h=>?_;obtain ⟨a,b,c,row,other,ps,rfl,ha,hb,hc,hn,k⟩:=h;have nd:=zk0.nd;have hu:=hr.units;refine ⟨_,(za (sv 3 nd (ln T (pv 2)))
  (za (pif (PW.pt (zc6 (tc z3z (pv 3) (ln T (pv 1))) (zbd (yj (j5 (fcl xu hr xg (a3 (pv 0) (pv 2) (ju yo (pv 1) q9 (j4 (pv 3)))))))))))
  (za (sv 4 nd (z9 z8 (pv 2) (zr (a1 (ln T (pv 0))))))
  (za (vq PassesOwn.never rfl (zg2 rfl T.no_range (a1 (z9 z8 (pv 3) zc))) (gv 5 nd) (za (sv 6 nd (zqu (tc (yp hu) (pv 5) zc) zc (z9 z8 (px (pv 2) (z9 zak (pv 5) zc)) zc)))
  (zp (pif (zm9 zyf (px (pv 1) (pv 5)) (ju yo (pv 0) (j4 (pv 6)) (j4 (px (pv 4) (pv 5)))) (by with_unfolding_all rfl))))))
  (zp (qx zf5)))))),?_⟩
 try simp only [ck1,ck2]
 rw [show L2.start zlx [V.ref a,V.ref b,V.ref c]=[some (V.ref a),some (V.ref b),some (V.ref c),none,none,none,none] from rfl];walk_at "r";refine zaq (fun h=>?_) (fun h=>?_)
 ·walk_at "r";have e:Lf.short row other ps=false:=by
   unfold Lf.short;have:¬ ps.length<other.length:=by lia
   simp [this]
  rw [<- e];exact k _ (Same.refl _)
 ·walk_at "r";intro q hq;rw [Int.toNat_natCast];walk_at "r";refine ⟨a,c,q,row,ps,other.take ps.length,rfl,by walk_at "f",by walk_at "f",by walk_at "f",fun H1 s1=>?_⟩;walk_at "r";have sh:Lf.short row other ps=(Lf.stands row ps (other.take ps.length)&&(List.range (ps.length+1)).all fun i=>!((Lf.cut row (Lf.zcg ps i) (Lf.endAt row ps i)).contains (other.getD i 0))):=by
   unfold Lf.short;have:ps.length<other.length:=by lia
   simp [this]
  have s0:Same H H1:=by walk_at "s"
  refine zjn (fun h1=>?_) (fun h1=>?_)
  ·walk_at "r";have e:Lf.short row other ps=false:=by rw [sh,h1];rfl
   rw [<- e];exact k _ s0
  ·walk_at "r";intro t ht;walk_at "r";refine zi1 (by walk_at "f") (by walk_at "f") (by simp;lia) ?_;intro e he;walk_at "r";refine zr4 (by lia) (by lia) ?_;have e0:((ps.length:Int)+1).toNat=ps.length+1:=by lia
   rw [e0];have hend:=he;generalize hH4:upd (upd H1 t _) e _=H4;have s4:Same H H4:=by rw [<- hH4];walk_at "s"
   have ha4:=s4.seq ha;have hb4:=s4.seq hb;have hc4:=s4.at hc;have he4:H4 e=some (.lst ((ps++[(row.length:Int)]).map V.int)):=by rw [<- hH4];walk_at "f"
   clear hH4;have st:=Lf.zts h1;refine vf zj2 (fun i σ H2=>∃ (v5 v6:Option V),σ=[some (V.ref a),some (V.ref b),some (V.ref c),some (V.int (ps.length:Int)),some (V.ref e),v5,v6]/\Same H4 H2/\∀ j,j<i->(!((Lf.cut row (Lf.zcg ps j) (Lf.endAt row ps j)).contains (other.getD j 0)))=true) ?_ ?_ ?_ ?_
   ·exact ⟨_,_,rfl,Same.refl _,fun j hj=>by lia⟩
   ·exact fun _ _ _ _ _=>trivial
   ·rintro i z x σ H2 H3 hy ⟨v5,v6,rfl,s2,inv⟩ ⟨rfl,rfl⟩;obtain ⟨hi,ez⟩:=List.getElem?_eq_some_iff.mp hy;rw [List.getElem_range] at ez;subst ez;rw [List.length_range] at hi;walk_at "r";have hp:0<i->0<=ps.getD (i-1) 0:=fun h0=>(st (i-1) (by lia)).1;have hb0:0<=Lf.zcg ps i:=by
     unfold Lf.zcg;split
     ·lia
     ·have:=hp (by lia);lia
    have he0:0<=Lf.endAt row ps i:=by
     unfold Lf.endAt;by_cases hl:i<ps.length
     ·have:=(st i hl).1;rw [List.getD_eq_getElem?_getD,List.getElem?_append_left hl,<- List.getD_eq_getElem?_getD];exact this
     ·have:i=ps.length:=by lia
      subst this;simp
    refine z8k (V.int (Lf.zcg ps i)) H3 (fun Q' k'=>?_) ?_
    ·refine z3n ?_;walk_at "r";refine zaq (fun h2=>?_) (fun h2=>?_)
     ·walk_at "r";have e:Lf.zcg ps i=0:=by unfold Lf.zcg;rw [if_pos (by lia)]
      rw [e] at k';exact k'
     ·walk_at "r";refine zah (by walk_at "f") (by lia) (by lia) ?_;walk_at "r";have e:Lf.zcg ps i=ps.getD ((0+(i:Int))-1).toNat 0+1:=by
       unfold Lf.zcg;rw [if_neg (by lia)];have:((0+(i:Int))-1).toNat=i-1:=by lia
       rw [this]
      rw [e] at k';exact k'
    ·walk_at "r";refine zah (by walk_at "f") (by lia) (by lia) ?_;walk_at "r";refine zah (by walk_at "f") (by lia) (by rw [List.length_append];simp;lia) ?_;have ei:((0+(i:Int))).toNat=i:=by lia
     rw [ei];have ee:(ps++[(row.length:Int)]).getD i 0=Lf.endAt row ps i:=rfl;rw [ee];walk_at "r";intro z hz;walk_at "r";refine zaq (fun h2=>?_) (fun h2=>?_)
     ·walk_at "r";have e:Lf.short row other ps=false:=by
       rw [sh,h1,Bool.true_and];refine Bool.eq_false_iff.mpr fun hall=>?_;have:=List.all_eq_true.mp hall i (List.mem_range.mpr (by lia));simp only [Bool.not_eq_true',List.contains_eq_mem,decide_eq_false_iff_not] at this;exact this h2
      rw [<- e];exact k _ (s4.trans (by walk_at "s"))
     ·walk_at "r";refine ⟨_,_,rfl,by walk_at "s",fun j hj=>?_⟩;by_cases hji:j<i
      ·exact inv j hji
      ·have:j=i:=by lia
       subst this;simp only [Bool.not_eq_true',List.contains_eq_mem,decide_eq_false_iff_not];exact h2
   ·rintro σ H2 ⟨v5,v6,rfl,s2,inv⟩;walk_at "r";have e:Lf.short row other ps=true:=by
     rw [sh,h1,Bool.true_and,List.all_eq_true];intro j hj;rw [List.mem_range] at hj;exact inv j (by rw [List.length_range];exact hj)
    rw [<- e];exact k _ (s4.trans s2)
noncomputable abbrev zgy:=bd 51
noncomputable abbrev zl1:List Str:=["_law_one","_law_other","_law_table_here","_law_i","_law_j"]
noncomputable abbrev za0:List Str:=["_law_one","_law_other","_law_table_here"]
theorem zki:z7 zl1 za0 (zq zgy):=by walk_at "a"
noncomputable def zf9:Sp:=fun vs H Q _=>∃ (a b t:Addr) (ls:List Addr) (one other:List Int) (tb:List (List Int)),vs=[.ref a,.ref b,.ref t]/\H a=some (.lst (one.map V.int))/\H b=some (.lst (other.map V.int))/\Tab H t ls tb/\tb.length<=1000/\other.length<=1000/\∀ H',Same H H'->Q (.bl (Lf.tab one other tb)) H'
theorem zqa (F:Fun K "_law_table" "_law_table" zgy f fd) (T:Blt mg):qm P w K mg base CX0 1 f fd za0 zf9:=by
 refine F.ok zki (fun vs H Q E h=>by obtain ⟨_,_,_,_,_,_,_,rfl,_⟩:=h;rfl) fun cdv A outer s H vs Q E hr h=>?_;obtain ⟨a,b,t,ls,one,other,tb,rfl,ha,hb,hT,hn,hm,k⟩:=h;have nd:=zki.nd;have hu:=hr.units;have no:¬ Lf.TabOk one other tb->∀ H',Same H H'->Q (.bl false) H':=fun h H' s'=>by
  have:=k H' s';rw [Lf.zoa h] at this;exact this
 refine ⟨_,(za (pif (PW.pt (zc6 (tc (za8 hu) (ln T (pv 2)) (z9 z8 (ln T (pv 0)) zc)) (zc6 (tc (yp hu) (px (pv 2) zc) (zr qu)) (zbd (tc zgu (px (px (pv 2) zc) zc) zc))))))
  (za (vq PassesOwn.never rfl (zg2 rfl T.no_range (a1 (ln T (pv 2)))) (gv 3 nd) (za (pif (tc (za8 hu) (ln T (px (pv 2) (pv 3))) (z9 z8 (ln T (pv 1)) zc)))
  (zp (vq PassesOwn.never rfl (zg2 rfl T.no_range (a1 (ln T (px (pv 2) (pv 3))))) (gv 4 nd) (za (pif (PW.pt (zc6 (PW.pt (zc8 (tc zrc (pv 3) zc) (zd2 (tc zgu (px (px (pv 2) (pv 3)) (pv 4)) (px (px (pv 2) (z9 zak (pv 3) zc)) (pv 4)))))) (zbd (PW.pt (zc8 (tc zrc (pv 4) zc) (zd2 (tc zgu (px (px (pv 2) (pv 3)) (pv 4)) (px (px (pv 2) (pv 3)) (z9 zak (pv 4) zc))))))))))
  (zp (pif (PW.pt (zc8 (tc zrc (pv 3) zc) (zc8 (tc zrc (pv 4) zc) (zc8 (tc (yp hu) (px (pv 0) (z9 zak (pv 3) zc)) (px (pv 1) (z9 zak (pv 4) zc))) (zd2 (tc zmh (px (px (pv 2) (pv 3)) (pv 4)) (px (px (pv 2) (z9 zak (pv 3) zc)) (z9 zak (pv 4) zc)))))))))))))))
  (zp (qx zf5)))),?_⟩
 try simp only [ck1,ck2]
 rw [show L2.start zl1 [V.ref a,V.ref b,V.ref t]=[some (V.ref a),some (V.ref b),some (V.ref t),none,none] from rfl];walk_at "r";refine zrj hT ?_;walk_at "r";refine zdj (fun h=>?_) (fun h=>?_)
 ·walk_at "r";exact no (fun z=>h (by have:=z.len;lia)) _ (Same.refl _)
 have hlen:tb.length=one.length+1:=by lia
 walk_at "r";refine ut hT (by lia) (by lia) (fun l0 e0 h0=>?_);have z0:Int.toNat 0=0:=rfl;rw [z0] at h0 e0;walk_at "r";intro n0 hn0;walk_at "r";refine zaq (fun h1=>?_) (fun h1=>?_)
 ·walk_at "r";exact no (fun z=>by have:=z.lens 0 (Nat.zero_le _);rw [h1] at this;simp at this) _ (by walk_at "s")
 walk_at "r";have hTn:Tab (upd H n0 (HO.lst (List.map V.int []))) t ls tb:=hT.same (by walk_at "s");refine ut hTn (by lia) (by lia) (fun l1 e1 h2=>?_);rw [z0] at h2;walk_at "r";refine zah (by walk_at "f") (by lia) (by have:=List.length_pos_iff.mpr h1;lia) ?_;rw [z0,zjb];walk_at "r";refine zaq (fun h3=>?_) (fun h3=>?_)
 ·walk_at "r";exact no (fun z=>by have:=z.first;lia) _ (by walk_at "s")
 walk_at "r";refine zrj hTn ?_;walk_at "r";refine zr4 (by lia) (by lia) ?_;rw [Int.toNat_natCast];generalize hH1:upd H n0 _=H1;have s1:Same H H1:=by rw [<- hH1];walk_at "s"
 clear hTn h2 e1 hH1 hn0;have ha1:=s1.at ha;have hb1:=s1.at hb;refine vf zj2 (fun i σ H2=>∃ (v3 v4:Option V),σ=[some (V.ref a),some (V.ref b),some (V.ref t),v3,v4]/\Same H1 H2/\∀ i',i'<i->(tb.getD i' []).length=other.length+1/\∀ j,j<=other.length->Lf.TabAt one other tb i' j) ?_ ?_ ?_ ?_
 ·exact ⟨_,_,rfl,Same.refl _,fun i' hi'=>by lia⟩
 ·exact fun _ _ _ _ _=>trivial
 ·rintro i z x σ H2 H3 hy ⟨v3,v4,rfl,s2,inv⟩ ⟨rfl,rfl⟩;obtain ⟨hi,ez⟩:=List.getElem?_eq_some_iff.mp hy;rw [List.getElem_range] at ez;subst ez;rw [List.length_range] at hi;have ei:(0+(i:Int)).toNat=i:=by lia
  have ei1:0<i->(0+(i:Int)-1).toNat=i-1:=fun _=>by lia
  have hT2:Tab H3 t ls tb:=hT.same (s1.trans s2);have ha2:=s2.at ha1;have hb2:=s2.at hb1;have s02:Same H H3:=s1.trans s2;walk_at "r";refine ut hT2 (by lia) (by lia) (fun li e2 hli=>?_);rw [ei] at hli;walk_at "r";refine zdj (fun h4=>?_) (fun h4=>?_)
  ·walk_at "r";exact no (fun z=>h4 (by have:=z.lens i (by lia);lia)) _ s02
  have hll:(tb.getD i []).length=other.length+1:=by lia
  walk_at "r";refine ut hT2 (by lia) (by lia) (fun li' e2' hli'=>?_);rw [ei] at hli';walk_at "r";refine zr4 (by lia) (by lia) ?_;rw [Int.toNat_natCast,hll];refine vf zj2 (fun j σ H4=>∃ v4:Option V,σ=[some (V.ref a),some (V.ref b),some (V.ref t),some (V.int (0+(i:Int))),v4]/\Same H3 H4/\∀ j',j'<j->Lf.TabAt one other tb i j') ?_ ?_ ?_ ?_
  ·exact ⟨_,rfl,Same.refl _,fun j hj=>by lia⟩
  ·exact fun _ _ _ _ _=>trivial
  ·rintro j z x σ H4 H5 hy ⟨v4,rfl,s4,inv2⟩ ⟨rfl,rfl⟩;obtain ⟨hj,ez⟩:=List.getElem?_eq_some_iff.mp hy;rw [List.getElem_range] at ez;subst ez;rw [List.length_range] at hj;have ej:(0+(j:Int)).toNat=j:=by lia
   have hT4:Tab H5 t ls tb:=hT2.same s4;have ha4:=s4.at ha2;have hb4:=s4.at hb2;have s05:Same H H5:=s02.trans s4;have hprev:0<i->(tb.getD (i-1) []).length=other.length+1:=fun h=>(inv (i-1) (by lia)).1;have ej1:0<j->(0+(j:Int)-1).toNat=j-1:=fun _=>by lia
   iterate 3 walk_at "q"
   refine z14 (decide ((0<i/\Lf.tg tb i j<Lf.tg tb (i-1) j)\/(0<j/\Lf.tg tb i j<Lf.tg tb i (j-1)))) H5 (fun Q' k'=>?_) ?_
   ·have second:¬ (0<i/\Lf.tg tb i j<Lf.tg tb (i-1) j)->(z8p (zve (tOp (rI0 fun i j=>V.bl (decide (j<i))) (zwq 4) (tC (V.int 0)))) (zve (tOp (rI0 fun i j=>V.bl (decide (i<j))) (tOp (zuy K) (tOp (zuy K) (zwq 2) (zwq 3)) (zwq 4)) (tOp (zuy K) (tOp (zuy K) (zwq 2) (zwq 3)) (tOp (rI0 fun i j=>V.int (i-j)) (zwq 4) (tC (V.int 1))))))) [some (V.ref a),some (V.ref b),some (V.ref t),some (V.int (0+(i:Int))),some (V.int (0+(j:Int)))] H5 Q':=by
     intro hno;walk_at "r";refine zaq (fun h5=>?_) (fun h5=>?_)
     ·walk_at "r";refine ut hT4 (by lia) (by lia) (fun l5 e5 hl5=>?_);rw [ei] at hl5;walk_at "r";refine zah (by walk_at "f") (by lia) (by lia) ?_;rw [ej,zjb];walk_at "r";refine ut hT4 (by lia) (by lia) (fun l6 e6 hl6=>?_);rw [ei] at hl6;walk_at "r";refine zah (by walk_at "f") (by lia) (by lia) ?_;rw [ej1 (by lia),zjb];walk_at "r";by_cases h6:Lf.tg tb i j<Lf.tg tb i (j-1)
      ·rw [decide_eq_true (.inr ⟨by lia,h6⟩)] at k';rw [decide_eq_true h6];exact k'
      ·rw [decide_eq_false (by rintro (q|q);exact hno q;exact h6 q.2)] at k';rw [decide_eq_false h6];exact k'
     ·rw [decide_eq_false (by rintro (q|q);exact hno q;lia)] at k';exact k'
    walk_at "q";walk_at "q";walk_at "r";refine zaq (fun h5=>?_) (fun h5=>?_)
    ·walk_at "r";refine ut hT4 (by lia) (by lia) (fun l5 e5 hl5=>?_);rw [ei] at hl5;walk_at "r";refine zah (by walk_at "f") (by lia) (by lia) ?_;rw [ej,zjb];walk_at "r";refine ut hT4 (by lia) (by lia) (fun l6 e6 hl6=>?_);rw [ei1 (by lia)] at hl6;have:=hprev (by lia);walk_at "r";refine zah (by walk_at "f") (by lia) (by lia) ?_;rw [ej,zjb];walk_at "r";refine zaq (fun h6=>?_) (fun h6=>?_)
     ·rw [decide_eq_true (.inl ⟨by lia,h6⟩)] at k';exact k'
     ·exact second fun q=>h6 q.2
    ·exact second fun q=>by lia
   refine zaq (fun h5=>?_) (fun h5=>?_)
   ·walk_at "r";refine no (fun z=>?_) _ s05;have:=z.all i j (by lia) (by lia);rcases h5 with ⟨q1,q2⟩|⟨q1,q2⟩
    ·have:=this.up q1;lia
    ·have:=this.lf q1;lia
   have good:¬ (0<i/\0<j/\one.getD (i-1) 0=other.getD (j-1) 0/\Lf.tg tb i j<=Lf.tg tb (i-1) (j-1))->∀ j',j'<j+1->Lf.TabAt one other tb i j':=by
    intro hno j' hj';by_cases hjj:j'<j
    ·exact inv2 j' hjj
    have:j'=j:=by lia
    subst this;refine ⟨fun q=>?_,fun q=>?_,fun q1 q2 q3=>?_⟩
    ·have:¬ Lf.tg tb i j'<Lf.tg tb (i-1) j':=fun z=>h5 (.inl ⟨q,z⟩);lia
    ·have:¬ Lf.tg tb i j'<Lf.tg tb i (j'-1):=fun z=>h5 (.inr ⟨q,z⟩);lia
    ·have:¬ Lf.tg tb i j'<=Lf.tg tb (i-1) (j'-1):=fun z=>hno ⟨q1,q2,q3,z⟩;lia
   walk_at "r";refine zaq (fun h6=>?_) (fun h6=>?_);rotate_left
   ·walk_at "r";exact ⟨_,rfl,s4,good fun q=>by lia⟩
   walk_at "r";refine zaq (fun h7=>?_) (fun h7=>?_);rotate_left
   ·walk_at "r";exact ⟨_,rfl,s4,good fun q=>by lia⟩
   walk_at "r";refine zah (by walk_at "f") (by lia) (by lia) ?_;walk_at "r";refine zah (by walk_at "f") (by lia) (by lia) ?_;rw [ei1 (by lia),ej1 (by lia)];walk_at "r";refine zaq (fun h8=>?_) (fun h8=>?_);rotate_left
   ·walk_at "r";exact ⟨_,rfl,s4,good fun q=>h8 q.2.2.1⟩
   walk_at "r";refine ut hT4 (by lia) (by lia) (fun l5 e5 hl5=>?_);rw [ei] at hl5;walk_at "r";refine zah (by walk_at "f") (by lia) (by lia) ?_;rw [ej,zjb];walk_at "r";refine ut hT4 (by lia) (by lia) (fun l6 e6 hl6=>?_);rw [ei1 (by lia)] at hl6;have:=hprev (by lia);walk_at "r";refine zah (by walk_at "f") (by lia) (by lia) ?_;rw [ej1 (by lia),zjb];walk_at "r";refine zaq (fun h9=>?_) (fun h9=>?_)
   ·walk_at "r";refine no (fun z=>?_) _ s05;have:=(z.all i j (by lia) (by lia)).dg (by lia) (by lia) h8;lia
   ·walk_at "r";exact ⟨_,rfl,s4,good fun q=>h9 q.2.2.2⟩
  ·rintro σ H4 ⟨v4,rfl,s4,inv2⟩;rw [List.length_range] at inv2;walk_at "r";refine ⟨_,_,rfl,s2.trans s4,fun i' hi'=>?_⟩;by_cases hii:i'<i
   ·exact inv i' hii
   ·have:i'=i:=by lia
    subst this;exact ⟨hll,fun j hj=>inv2 j (by lia)⟩
 ·rintro σ H2 ⟨v3,v4,rfl,s2,inv⟩;rw [List.length_range] at inv;walk_at "r";have e:Lf.tab one other tb=true:=Lf.zj9 ⟨hlen,by lia,fun i hi=>(inv i (by lia)).1,fun i j hi hj=>(inv i (by lia)).2 j hj⟩;rw [<- e];exact k _ (s1.trans s2)
noncomputable abbrev zi9:=bd 52
noncomputable abbrev zn5:List Str:=["_law_one","_law_other","_law_mine","_law_theirs","_law_table_here","_law_some"]
noncomputable abbrev zec:List Str:=["_law_one","_law_other","_law_mine","_law_theirs","_law_table_here"]
theorem zl6:z7 zn5 zec (zq zi9):=by walk_at "a"
noncomputable def zl7:Sp:=fun vs H Q _=>∃ (a b m q t:Addr) (ls:List Addr) (one other mine theirs:List Int) (tb:List (List Int)),vs=[.ref a,.ref b,.ref m,.ref q,.ref t]/\H a=some (.lst (one.map V.int))/\H b=some (.lst (other.map V.int))/\H m=some (.lst (mine.map V.int))/\H q=some (.lst (theirs.map V.int))/\Tab H t ls tb/\tb.length<=1000/\other.length<=1000/\mine.length<=1000/\∀ H',Same H H'->Q (.bl (Lf.long one other mine theirs tb)) H'
theorem zrs (F:Fun K "_law_long" "_law_long" zi9 f fd) (T:Blt mg)
  (zhv:Cal K mg "_law_table" f1 fd1 za0) (zgx:qm P w K mg base CX0 1 f1 fd1 za0 zf9)
  (xg:Cal K mg "_law_stands" f2 fd2 jn) (xu:qm P w K mg base CX0 1 f2 fd2 jn (zam K)):qm P w K mg base CX0 2 f fd zec zl7:=by
 refine F.ok zl6 (fun vs H Q E h=>by obtain ⟨_,_,_,_,_,_,_,_,_,_,_,rfl,_⟩:=h;rfl) fun cdv A outer s H vs Q E hr h=>?_;obtain ⟨a,b,m,q,t,ls,one,other,mine,theirs,tb,rfl,ha,hb,hm,hq,hT,n1,n2,n3,k⟩:=h;have nd:=zl6.nd;have hu:=hr.units;have no:Lf.long one other mine theirs tb=false->∀ H',Same H H'->Q (.bl false) H':=fun e H' s'=>by
  have:=k H' s';rw [e] at this;exact this
 refine ⟨_,(za (pif (PW.pt (zc6 (j5 (jk (zsv rfl) rfl T.no_any boot_any (a1 (pcm (N:=["_law_place","_law_one"]) (caps:=[0]) (qb (pv 2)) (fun _ _ _ _=>⟨_,(zu5 (zri zmh zgu zc (pv 0) (ln T (pv 1)))),by walk_at "c"⟩))))) (zbd (yj (j5 (fcl zgx hr zhv (a3 (pv 0) (pv 1) (pv 4)))))))))
  (za (zmv (N:=["_law_place","_law_one"]) (k:=1) (caps:=[0]) (Block.of (by kernel_rfl)) rfl (qb (pv 2)) (fun _ _ _ _=>⟨_,(gv 0 (by show List.Nodup (["_law_place","_law_one"]:List Str);decide)),by walk_at "c"⟩) (fun _ _ _ _=>⟨_,zth.none,by walk_at "c"⟩) (fun _ _ _ _=>⟨_,(px (pv 1) (pv 0)),by walk_at "c"⟩) nd (i:=5) rfl rfl (by with_unfolding_all rfl))
  (zp (qx (zcv (fcl xu hr xg (a3 (pv 0) (pv 2) (pv 5))) (zcv (fcl xu hr xg (a3 (pv 1) (pv 3) (pv 5))) (zd3 (ec (yp hu) (px (px (pv 4) (zdh zao zc)) (zdh zao zc)) (ln T (pv 2)))))))))),?_⟩
 try simp only [ck1,ck2]
 rw [show L2.start zn5 [V.ref a,V.ref b,V.ref m,V.ref q,V.ref t]=[some (V.ref a),some (V.ref b),some (V.ref m),some (V.ref q),some (V.ref t),none] from rfl];walk_at "r";refine comp_map (wz (ns:=mine)) (fun p=>.bl (!(decide (0<=p)&&decide (p<(one.length:Int))))) (fun H' s'=>SqL.of (s'.at hm)) (by lia) ?_ ?_
 ·rintro i z x H3 H4 R R' hi s3 ⟨rfl,rfl⟩ h1;have ha3:=s3.at ha;walk_at "r";refine ⟨⟨rfl,rfl⟩,?_⟩;walk_at "r";refine zaq (fun h2=>?_) (fun h2=>?_)
  ·walk_at "r";rw [decide_eq_true h2,Bool.true_and] at h1;exact h1 _ (Same.refl _)
  ·rw [decide_eq_false h2,Bool.false_and] at h1;walk_at "r";exact h1 _ (Same.refl _)
 intro D H1 hD s1 hd;walk_at "r";refine z2e (SqL.of hd) ?_;walk_at "r";refine zu8 (fun h1=>?_) (fun h1=>?_)
 ·walk_at "r";refine no ?_ _ s1;unfold Lf.long Lf.inside;rw [h1];rfl
 have hin:Lf.inside one.length mine=true:=by unfold Lf.inside;rw [h1];rfl
 walk_at "r";refine ⟨a,b,t,ls,one,other,tb,rfl,s1.at ha,s1.at hb,hT.same s1,n1,n2,fun H2 s2=>?_⟩;have s02:=s1.trans s2;walk_at "r";refine zjn (fun h2=>?_) (fun h2=>?_)
 ·walk_at "r";refine no ?_ _ s02;unfold Lf.long;rw [h2,Bool.and_false];rfl
 have hok:=Lf.znl.mp h2;have hm2:=s02.at hm;have ha2:=s02.at ha;have hb2:=s02.at hb;have hq2:=s02.at hq;walk_at "r";refine zbf (wz (ns:=mine)) (fun p=>one.getD p.toNat 0) (fun H' s'=>SqL.of (s'.at hm2)) (by lia) ?_ ?_
 ·rintro i z x H3 H4 R R' hi s3 ⟨rfl,rfl⟩ h3;have ha3:=s3.at ha2;have hz:=Lf.zvw hin z (List.mem_of_getElem? hi);walk_at "r";refine ⟨⟨rfl,rfl⟩,?_⟩;walk_at "r";refine zah (by walk_at "f") hz.1 hz.2 ?_;exact h3 _ (Same.refl _)
 intro D2 H3 hD2 s3 hd2;have s03:=s02.trans s3;walk_at "r";refine ⟨a,m,D2,one,mine,_,rfl,SqL.of (s3.at ha2),SqL.of (s3.at hm2),SqL.of hd2,fun H4 s4=>?_⟩;have s04:=s03.trans s4;walk_at "r";refine zu8 (fun h3=>?_) (fun h3=>?_);rotate_left
 ·refine no ?_ _ s04;unfold Lf.long Lf.picks;rw [h3,Bool.and_false];rfl
 walk_at "r";refine ⟨b,q,D2,other,theirs,_,rfl,SqL.of (s4.at (s3.at hb2)),SqL.of (s4.at (s3.at hq2)),SqL.of (s4.at hd2),fun H5 s5=>?_⟩;have s05:=s04.trans s5;have hT5:=hT.same s05;have hm5:=s05.at hm;walk_at "r";refine zu8 (fun h4=>?_) (fun h4=>?_);rotate_left
 ·refine no ?_ _ s05;unfold Lf.long Lf.picks;rw [h4,Bool.and_false];rfl
 walk_at "r";refine zfz hT5 (by have:=hok.len;lia) (fun l e hl=>?_);walk_at "r";refine zhy (by walk_at "f") ?_ ?_
 ·have e1:tb.length-1=one.length:=by have:=hok.len;lia
  rw [e1,hok.lens _ (Nat.le_refl _)];lia
 walk_at "r";have e:Lf.long one other mine theirs tb=decide (Lf.zqy tb=(mine.length:Int)):=by
  unfold Lf.long Lf.picks;rw [hin,h2,h3,h4];rfl
 have:=k _ s05;rw [e] at this;exact this
noncomputable abbrev zad:=bd 53
noncomputable abbrev za7:List Str:=["_law_row_here","_law_kinds","_law_cuts","_law_word","_law_begins","_law_begin","_law_end"]
noncomputable abbrev zb8:List Str:=["_law_row_here","_law_kinds","_law_cuts","_law_word"]
theorem zi3:z7 za7 zb8 (zq zad):=by walk_at "a"
noncomputable def ziw:Sp:=fun vs H Q _=>∃ (a c q:Addr) (row cuts word:List Int) (kinds:Int),vs=[.ref a,.int kinds,.ref c,.ref q]/\H a=some (.lst (row.map V.int))/\H c=some (.lst (cuts.map V.int))/\H q=some (.lst (word.map V.int))/\row.length<64/\cuts.length<=1000/\word.length<=1000/\∀ H',Same H H'->Q (.bl (Lf.missed row kinds cuts word)) H'
theorem zou (F:Fun K "_law_missed" "_law_missed" zad f fd) (T:Blt mg)
  (zoo:Cal K mg "_law_is_left" f1 fd1 zba) (zom:qm P w K mg base CX0 1 f1 fd1 zba (zhs K)):qm P w K mg base CX0 2 f fd zb8 ziw:=by
 refine F.ok zi3 (fun vs H Q E h=>by obtain ⟨_,_,_,_,_,_,_,rfl,_⟩:=h;rfl) fun cdv A outer s H vs Q E hr h=>?_;obtain ⟨a,c,q,row,cuts,word,kinds,rfl,ha,hc,hq,n1,n2,n3,k⟩:=h;have nd:=zi3.nd;have hu:=hr.units;rw [Lf.zhl] at k;refine ⟨_,(za (pif (PW.pt (zc6 (tc (za8 hu) (ln T (pv 3)) (z9 z8 (ln T (pv 2)) zc)) (zc6 (j5 (jk (zsv rfl) rfl T.no_any boot_any (a1 (pcm (N:=["_law_sign","_law_kinds"]) (caps:=[1]) (qb (pv 3)) (fun _ _ _ _=>⟨_,(zu5 (zri zmh zgu zc (pv 0) (pv 1))),by walk_at "c"⟩))))) (zbd (j5 (fcl zom hr zoo (a2 (pv 0) (pv 3)))))))))
  (za (sv 4 nd (z9 z8 (zr (a1 zc)) (pv 2)))
  (za (vq PassesOwn.never rfl (zzm rfl T.no_zip boot_zip (a2 (pv 4) (pv 2))) (zel (n:=2) rfl (jj (gv 5 nd) (jj (gv 6 nd) zb2))) (za (pif (yj (zkg zgu zmh (pv 5) (pv 6) (ln T (pv 0)))))
  (zp (pif (tc (za8 hu) (ln T (zlb (N:=["_law_sign","_law_kinds"]) (k:=1) (caps:=[1]) (Block.of (by kernel_rfl)) rfl (qb (jk (zvd rfl) rfl T.no_sorted boot_sorted (a1 (ze9 (zse rfl) rfl T.no_set boot_set (a1 (ju yo (pv 0) (j4 (pv 5)) (j4 (pv 6)))))))) (fun _ _ _ _=>⟨_,(gv 0 (by show List.Nodup (["_law_sign","_law_kinds"]:List Str);decide)),by walk_at "c"⟩) (fun _ _ _ _=>⟨_,(zth.one (zkg zmh zgu zc (pv 0) (pv 1))),by walk_at "c"⟩) (fun _ _ _ _=>⟨_,(pv 0),by walk_at "c"⟩))) (pv 1))))))
  (zp (qx zf5))))),?_⟩
 try simp only [ck1,ck2]
 try simp only [show (zuj CX0 P w K mg base za7 "_law_missed" (zq zad) f cdv A outer s H E).nox.prog=P from rfl,show (zuj CX0 P w K mg base za7 "_law_missed" (zq zad) f cdv A outer s H E).prog=P from rfl,show (zuj CX0 P w K mg base za7 "_law_missed" (zq zad) f cdv A outer s H E).nox.w=w from rfl,show (zuj CX0 P w K mg base za7 "_law_missed" (zq zad) f cdv A outer s H E).w=w from rfl]
 rw [show L2.start za7 [V.ref a,V.int kinds,V.ref c,V.ref q]=[some (V.ref a),some (V.int kinds),some (V.ref c),some (V.ref q),none,none,none] from rfl];walk_at "r";refine zdj (fun h1=>?_) (fun h1=>?_)
 ·walk_at "r";rw [decide_eq_false (fun z=>h1 (by lia)),Bool.and_false,Bool.false_and] at k;exact k _ (Same.refl _)
 rw [decide_eq_true (by lia),Bool.and_true] at k;walk_at "r";refine comp_map (wz (ns:=word)) (fun y=>.bl (!Lf.uo kinds y)) (fun H' s'=>SqL.of (s'.at hq)) (by lia) ?_ ?_
 ·rintro i z x H3 H4 R R' hi s3 ⟨rfl,rfl⟩ h1;walk_at "r";refine ⟨⟨rfl,rfl⟩,?_⟩;have e:Lf.uo kinds z=(decide (0<=z)&&decide (z<kinds)):=by
   unfold Lf.uo;simp
  rw [e] at h1;walk_at "r";refine zaq (fun h2=>?_) (fun h2=>?_)
  ·walk_at "r";rw [decide_eq_true h2,Bool.true_and] at h1;exact h1 _ (Same.refl _)
  ·rw [decide_eq_false h2,Bool.false_and] at h1;walk_at "r";exact h1 _ (Same.refl _)
 intro D H1 hD s1 hd;walk_at "r";refine z2e (SqL.of hd) ?_;have ea:(word.any fun y=>!Lf.uo kinds y)=!(word.all fun s=>Lf.uo kinds s):=by
  rw [List.not_all_eq_any_not]
 rw [ea];walk_at "r";refine zjn (fun h2=>?_) (fun h2=>?_)
 ·walk_at "r";rw [h2,Bool.false_and] at k;exact k _ s1
 rw [h2,Bool.true_and] at k;walk_at "r";refine ⟨a,q,row,word,rfl,SqL.of (s1.at ha),SqL.of (s1.at hq),fun H2 s2=>?_⟩;have s02:=s1.trans s2;clear s1 s2 hd;walk_at "r";refine zu8 (fun h3=>?_) (fun h3=>?_)
 ·walk_at "r";rw [h3] at k;simp only [Bool.not_true,Bool.and_false] at k;exact k _ s02
 rw [h3] at k;simp only [Bool.not_false,Bool.and_true] at k;walk_at "r";intro z hz;walk_at "r";refine zi1 (xs:=[0]) zb (zu (s02.at hc) hz) (by simp;lia) ?_;intro b hb;have s3:Same H2 (upd (upd H2 z (.lst (([0]:List Int).map V.int))) b (.lst (([0]++cuts).map V.int))):=(Same.upd_new hz).trans (Same.upd_new hb);have hb3:(upd (upd H2 z (.lst (([0]:List Int).map V.int))) b (.lst (([0]++cuts).map V.int))) b=some (.lst ((0::cuts).map V.int)):=zb;generalize upd (upd H2 z (.lst (([0]:List Int).map V.int))) b (.lst (([0]++cuts).map V.int))=H3 at s3 hb3 ⊢;have s03:=s02.trans s3;clear s02 s3 hz hb;walk_at "r";refine vf (zt4 (xs:=0::cuts) (ys:=cuts)) (fun i σ H4=>∃ (v5 v6:Option V) (g:Int),σ=[some (.ref a),some (.int kinds),some (.ref c),some (.ref q),some (.ref b),v5,v6]/\Same H3 H4/\0<=g/\(0::cuts).drop i=g::cuts.drop i/\Lf.zih row kinds 0 cuts=Lf.zih row kinds g (cuts.drop i)) ?_ ?_ ?_ ?_
 ·exact ⟨none,none,0,rfl,Same.refl _,Int.le_refl _,rfl,rfl⟩
 ·rintro i σ H4 _ ⟨_,_,_,_,s4,_⟩;exact ⟨SqL.of (s4.at hb3),SqL.of ((s03.trans s4).at hc)⟩
 ·rintro i ⟨p,e⟩ x σ H4 H5 hy ⟨v5,v6,g,rfl,s4,hg,hdr,inv⟩ ⟨T',hT,rfl,rfl⟩;have hz:=List.getElem?_zip_eq_some.mp hy;have ep:p=g:=by
   have:=congrArg (fun l=>l[0]?) hdr;simp only [List.getElem?_drop,Nat.add_zero] at this;rw [hz.1] at this;simpa using this
  subst ep;obtain ⟨hi,e1⟩:=List.getElem?_eq_some_iff.mp hz.2;have d1:cuts.drop i=e::cuts.drop (i+1):=by rw [List.drop_eq_getElem_cons hi,e1]
  have d2:(0::cuts).drop (i+1)=e::cuts.drop (i+1):=by rw [List.drop_succ_cons,d1]
  rw [d1] at inv;have s04:=s03.trans s4;have ha5:=zu (o:=.tup [.int p,.int e]) (s04.at ha) hT;have ht5:(upd H4 T' (.tup [.int p,.int e])) T'=some (.tup [.int p,.int e]):=zb;have s45:Same H3 (upd H4 T' (.tup [.int p,.int e])):=s4.trans (Same.upd_new hT);simp only at ha5 ht5 s45 ⊢
  generalize upd H4 T' (.tup [.int p,.int e])=H5 at ha5 ht5 s45 ⊢;clear hT s04 s4;have s05:=s03.trans s45;have no:Lf.zih row kinds p (e::cuts.drop (i+1))=false->∀ H',Same H H'->Q (.bl false) H':=fun z H' s'=>by
   have:=k H' s';rw [inv,z] at this;exact this
  walk_at "r";refine zaq (fun h5=>?_) (fun h5=>?_)
  ·walk_at "r";refine zdj (fun h6=>?_) (fun h6=>?_)
   ·walk_at "r";refine no ?_ _ s05;unfold Lf.zih;rw [decide_eq_false h6,Bool.and_false,Bool.false_and,Bool.false_and]
   walk_at "r";intro u hu';have lcut:(Lf.cut row p e).length<=row.length:=by unfold Lf.cut;rw [List.length_take,List.length_drop];lia
   walk_at "r";refine z1s (SqL.of zb) (by lia) fun d hd0=>?_;walk_at "r";refine z33 zb (by lia) fun l ms hl0 hmn hms=>?_;have s6:Same H5 (upd (upd (upd H5 u (.lst ((Lf.cut row p e).map V.int))) d (.ext (isSet P w d (Lf.cut row p e)))) l (.lst (ms.map V.int))):=((Same.upd_new hu').trans (Same.upd_new hd0)).trans (Same.upd_new hl0);have hl6:(upd (upd (upd H5 u (.lst ((Lf.cut row p e).map V.int))) d (.ext (isSet P w d (Lf.cut row p e)))) l (.lst (ms.map V.int))) l=some (.lst (ms.map V.int)):=zb;generalize upd (upd (upd H5 u (.lst ((Lf.cut row p e).map V.int))) d (.ext (isSet P w d (Lf.cut row p e)))) l (.lst (ms.map V.int))=H6 at s6 hl6 ⊢;clear hu' hd0 hl0;have s36:=s45.trans s6;have s06:=s05.trans s6;have mlen:ms.length<=row.length:=Nat.le_trans (Lf.za5 _ _ hmn fun a ha=>(hms a).mp ha) lcut;walk_at "r";refine zfb (wz (ns:=ms)) (Lf.uo kinds) (fun y=>y) (fun H' s'=>SqL.of (s'.at hl6)) (by lia) ?_ ?_
   ·rintro j y x H7 H8 R R' hi s7 ⟨rfl,rfl⟩ h7 h8;walk_at "r";refine ⟨⟨rfl,rfl⟩,?_⟩;have e:Lf.uo kinds y=(decide (0<=y)&&decide (y<kinds)):=by
     unfold Lf.uo;simp
    rw [e] at h7 h8;walk_at "r";refine zaq (fun h9=>?_) (fun h9=>?_)
    ·walk_at "r";rw [decide_eq_true h9,Bool.true_and] at h7 h8;refine zaq (fun h10=>?_) (fun h10=>?_)
     ·walk_at "r";exact h7 (decide_eq_true h10) _ (Same.refl _)
     ·exact h8 (decide_eq_false h10) _ (Same.refl _)
    ·rw [decide_eq_false h9,Bool.false_and] at h8;walk_at "r";exact h8 rfl _ (Same.refl _)
   intro D2 H7 hD2 s7 hd2;have s37:=s36.trans s7;have s07:=s06.trans s7;have em:(ms.filter (Lf.uo kinds)).map (fun y=>y)=ms.filter (Lf.uo kinds):=by simp
   rw [em] at hd2;have ek:(ms.filter (Lf.uo kinds)).length=Lf.zc5 kinds (Lf.cut row p e):=Lf.zvy (hmn.filter _) fun a=>by rw [List.mem_filter,hms]
   walk_at "r";rw [ek];refine zdj (fun h8=>?_) (fun h8=>?_)
   ·walk_at "r";refine no ?_ _ s07;unfold Lf.zih;rw [decide_eq_false h8,Bool.and_false,Bool.false_and]
   walk_at "r";refine ⟨_,_,e,rfl,s37,by lia,d2,?_⟩;rw [inv];conv=>lhs;unfold Lf.zih
   rw [decide_eq_true h5,decide_eq_true h6,decide_eq_true h8,Bool.true_and,Bool.true_and,Bool.true_and]
  ·walk_at "r";refine no ?_ _ s05;unfold Lf.zih;rw [decide_eq_false h5,Bool.false_and,Bool.false_and,Bool.false_and]
 ·rintro σ H4 ⟨v5,v6,g,rfl,s4,hg,hdr,inv⟩;rw [List.length_zip,Nat.min_eq_right (by simp),List.drop_length] at inv;walk_at "r";rw [inv] at k;exact k _ (s03.trans s4)
noncomputable abbrev zd6:=bd 54
noncomputable abbrev zhi:List Str:=["_law_row_here","_law_one","_law_other","_law_places"]
noncomputable abbrev za1:List Str:=["_law_row_here","_law_one","_law_other","_law_places"]
theorem zge:z7 zhi za1 (zq zd6):=by walk_at "a"
noncomputable def zgm:Sp:=fun vs H Q _=>∃ (a b c p:Addr) (row one other ps:List Int),vs=[.ref a,.ref b,.ref c,.ref p]/\H a=some (.lst (row.map V.int))/\H b=some (.lst (one.map V.int))/\H c=some (.lst (other.map V.int))/\H p=some (.lst (ps.map V.int))/\row.length<=1000/\∀ H',Same H H'->Q (.bl (Lf.mixed row one other ps)) H'
theorem zme (F:Fun K "_law_is_mixed" "_law_is_mixed" zd6 f fd) (T:Blt mg)
  (xg:Cal K mg "_law_stands" f1 fd1 jn) (xu:qm P w K mg base CX0 1 f1 fd1 jn (zam K)):qm P w K mg base CX0 2 f fd za1 zgm:=by
 refine F.ok zge (fun vs H Q E h=>by obtain ⟨_,_,_,_,_,_,_,_,rfl,_⟩:=h;rfl) fun cdv A outer s H vs Q E hr h=>?_;obtain ⟨a,b,c,p,row,one,other,ps,rfl,ha,hb,hc,hp,hn,k⟩:=h;have nd:=zge.nd;have hu:=hr.units;refine ⟨_,(za (pif (yj (j5 (fcl xu hr xg (a3 (pv 0) (pv 3) (pv 1))))))
  (zp (qx (ec (yp hu) (zlb (N:=["_law_place","_law_sign","_law_places"]) (k:=2) (caps:=[3]) (Block.of (by kernel_rfl)) rfl (zjv rfl T.no_enumerate boot_enumerate (a1 (pv 0))) (fun _ _ _ _=>⟨_,(zel (n:=2) rfl (jj (gv 0 (by show List.Nodup (["_law_place","_law_sign","_law_places"]:List Str);decide)) (jj (gv 1 (by show List.Nodup (["_law_place","_law_sign","_law_places"]:List Str);decide)) zb2))),by walk_at "c"⟩) (fun _ _ _ _=>⟨_,(zth.one (zm9 zr0 (pv 0) (pv 2) (by with_unfolding_all rfl))),by walk_at "c"⟩) (fun _ _ _ _=>⟨_,(pv 1),by walk_at "c"⟩)) (pv 2))))),?_⟩
 try simp only [ck1,ck2]
 rw [show L2.start zhi [V.ref a,V.ref b,V.ref c,V.ref p]=[some (V.ref a),some (V.ref b),some (V.ref c),some (V.ref p)] from rfl];walk_at "r";refine ⟨a,p,b,row,ps,one,rfl,SqL.of ha,SqL.of hp,SqL.of hb,fun H1 s1=>?_⟩;walk_at "r";refine zjn (fun h1=>?_) (fun h1=>?_)
 ·walk_at "r";have e:Lf.mixed row one other ps=false:=by unfold Lf.mixed;rw [h1];rfl
  rw [<- e];exact k _ s1
 have ha1:=s1.at ha;have hp1:=s1.at hp;have hc1:=s1.at hc;walk_at "r";refine zfb (zh5 (xs:=row)) (fun y=>!decide ((y.2:Int)∈ps)) (fun y=>y.1) (fun H' s'=>SqL.of (s'.at ha1)) (by rw [List.length_zipIdx];lia) ?_ ?_
 ·rintro i ⟨z,j⟩ x H3 H4 R R' hi s3 ⟨T',hT,rfl,rfl⟩ h3 h4;have hp3:=s3.at hp1;walk_at "r";refine ⟨⟨rfl,rfl⟩,?_⟩;walk_at "r";refine zdj (fun h5=>?_) (fun h5=>?_)
  ·walk_at "r";exact h3 (by simp [h5]) _ (by walk_at "s")
  ·exact h4 (by simp [h5]) _ (by walk_at "s")
 intro D H2 hD s2 hd;walk_at "r";have e:Lf.mixed row one other ps=decide (Lf.others row ps=other):=by unfold Lf.mixed;rw [h1];rfl
 have:=k _ (s1.trans s2);rw [e] at this;exact this
noncomputable abbrev zcj:=bd 55
noncomputable abbrev ziu:List Str:=["_law_row_here","_law_one","_law_other","_law_pairs","_law_whole","_law_held","_law_pair","_law_i","_law_j"]
noncomputable abbrev zbc:List Str:=["_law_row_here","_law_one","_law_other","_law_pairs"]
theorem zh4:z7 ziu zbc (zq zcj):=by walk_at "a"
noncomputable def zhn:Sp:=fun vs H Q _=>∃ (a b c p:Addr) (ts:List Addr) (row one other:List Int) (ps:List (Int×Int)),vs=[.ref a,.ref b,.ref c,.ref p]/\H a=some (.lst (row.map V.int))/\H b=some (.lst (one.map V.int))/\H c=some (.lst (other.map V.int))/\Prs H p ts ps/\ps.length<=100000/\∀ H',Same H H'->Q (.bl (Lf.zc0 row one other ps)) H'
theorem zni (F:Fun K "_law_unmixed" "_law_unmixed" zcj f fd) (T:Blt mg):qm P w K mg base CX0 1 f fd zbc zhn:=by
 refine F.ok zh4 (fun vs H Q E h=>by obtain ⟨_,_,_,_,_,_,_,_,_,rfl,_⟩:=h;rfl) fun cdv A outer s H vs Q E hr h=>?_;obtain ⟨a,b,c,p,ts,row,one,other,ps,rfl,ha,hb,hc,hP,hn,k⟩:=h;have nd:=zh4.nd;have hu:=hr.units;have hu1:(A.deeper (envOfC "_law_unmixed" (zq zcj) s.heap.objs.size f cdv)).units+1<cLine:=by lia
 have no:¬ Lf.z4e row one other ps->∀ H',Same H H'->Q (.bl false) H':=fun h H' s'=>by
  have:=k H' s';rw [Lf.za3 h] at this;exact this
 refine ⟨_,(za (sv 4 nd (yr (a2 (ln T (pv 1)) (ln T (pv 2)))))
  (za (pif (PW.pt (zc6 (tc (za8 hu) (ln T (pv 0)) (z9 z8 (ln T (pv 1)) (ln T (pv 2)))) (zc6 (zm9 (zys hu) (yr (a2 zc zc)) (pv 3) (by with_unfolding_all rfl)) (zbd (zm9 (z4p hu) (pv 4) (pv 3) (by with_unfolding_all rfl)))))))
  (za (sv 5 nd z1j)
  (za (vq PassesOwn.never rfl (qb (pv 3)) (gv 6 nd) (zp (zty hu1 (pv 5) (pv 6) zf5 rfl)))
  (za (vq PassesOwn.never rfl (qb (pv 3)) (zel (n:=2) rfl (jj (gv 7 nd) (jj (gv 8 nd) zb2))) (za (pif (PW.pt (zc6 (yj (zkg zmh zmh zc (pv 7) (ln T (pv 1)))) (zbd (yj (zkg zmh zmh zc (pv 8) (ln T (pv 2))))))))
  (za (pif (PW.pt (zc8 (tc zgu (pv 7) (ln T (pv 1))) (zc8 (tc (yp hu) (px (pv 1) (pv 7)) (px (pv 0) (z9 z8 (pv 7) (pv 8)))) (zd2 (zl8 (zh3 hu1 (yr (a2 (z9 z8 (pv 7) zc) (pv 8))) (pv 5)) (by with_unfolding_all rfl)))))))
  (zp (pif (PW.pt (zc8 (tc zgu (pv 8) (ln T (pv 2))) (zc8 (tc (yp hu) (px (pv 2) (pv 8)) (px (pv 0) (z9 z8 (pv 7) (pv 8)))) (zd2 (zl8 (zh3 hu1 (yr (a2 (pv 7) (z9 z8 (pv 8) zc))) (pv 5)) (by with_unfolding_all rfl)))))))))))
  (zp (qx zf5))))))),?_⟩
 try simp only [ck1,ck2]
 rw [show L2.start ziu [V.ref a,V.ref b,V.ref c,V.ref p]=[some (V.ref a),some (V.ref b),some (V.ref c),some (V.ref p),none,none,none,none,none] from rfl];walk_at "r";intro wh hwh;walk_at "r";refine zdj (fun h1=>?_) (fun h1=>?_)
 ·walk_at "r";exact no (fun z=>h1 (by have:=z.len;lia)) _ (by walk_at "s")
 walk_at "r";intro z0 hz0;walk_at "r";refine z0b (by walk_at "f") (hP.same (by walk_at "s")) ?_;walk_at "r";refine zdj (fun h2=>?_) (fun h2=>?_)
 ·walk_at "r";exact no (fun z=>h2 z.first) _ (by walk_at "s")
 walk_at "r";refine z8o (i:=one.length) (j:=other.length) (by walk_at "f") (hP.same (by walk_at "s")) ?_;walk_at "r";refine zaq (fun h3=>?_) (fun h3=>?_)
 ·walk_at "r";exact no (fun z=>z.last h3) _ (by walk_at "s")
 walk_at "r";intro d hd;walk_at "r";refine z0n (xs:=ts.map V.ref) (SqL.of ((hP.same (by walk_at "s")).at_)) ?_;generalize hH1:upd _ d (.dT [])=H1;have s1:Same H H1:=by rw [<- hH1];walk_at "s"
 have hd1:H1 d=some (.dT []):=by rw [<- hH1];walk_at "f"
 have hd0:H d=none:=by walk_at "h"
 clear hH1 hwh hz0 hd;have hP1:=hP.same s1;refine vf (zac (xs:=ts.map V.ref)) (fun n σ H2=>∃ (kvs:List (List Key×V)) (v6:Option V),σ=[some (V.ref a),some (V.ref b),some (V.ref c),some (V.ref p),some (V.ref wh),some (V.ref d),v6,none,none]/\Same H H2/\H2 d=some (.dT kvs)/\kvs.length<=n/\∀ i j:Int,((zbr kvs (kP i j)).isSome=true↔(i,j)∈ps.take n)) ?_ ?_ ?_ ?_
 ·exact ⟨[],_,rfl,s1,hd1,Nat.le_refl _,fun i j=>by simp [zbr]⟩
 ·rintro n σ H2 _ ⟨_,_,_,s2,_⟩;exact SqL.of (s2.at hP.at_)
 ·rintro n v x σ H2 H2' hy ⟨kvs,v6,rfl,s2,hd2,hl2,hv⟩ ⟨rfl,rfl⟩;rw [List.getElem?_map] at hy;obtain ⟨t,ht,rfl⟩:=Option.map_eq_some_iff.mp hy;have htp:=s2.at (hP.row n t ht);have hnl:n<ps.length:=by rw [<- hP.len];exact (List.getElem?_eq_some_iff.mp ht).1
  walk_at "r";refine z4l (i:=(ps.getD n (0,0)).1) (j:=(ps.getD n (0,0)).2) (by walk_at "f") (by walk_at "f") (by lia) ?_;refine ⟨_,_,rfl,zch s2 hd0,zb,?_,fun i j=>?_⟩
  ·have:=zun kvs (kP (ps.getD n (0,0)).1 (ps.getD n (0,0)).2) (V.bl true);lia
  ·rw [zfj];have et:ps.take (n+1)=ps.take n++[ps.getD n (0,0)]:=by
    rw [List.take_add_one,List.getD_eq_getElem?_getD];simp [hnl]
   rw [et,List.mem_append,List.mem_singleton,<- hv i j];by_cases e:kP i j=kP (ps.getD n (0,0)).1 (ps.getD n (0,0)).2
   ·rw [if_pos e];have:=zyr.mp e;simp [this]
   ·rw [if_neg e];have:¬ (i,j)=ps.getD n (0,0):=fun q=>e (zyr.mpr q);exact ⟨fun h=>.inl h,fun h=>h.elim id fun q=>absurd q this⟩
 rintro σ H2 ⟨kvs,v6,rfl,s2,hd2,hl2,hv⟩;have hv:∀ i j:Int,((zbr kvs (kP i j)).isSome=true↔(i,j)∈ps):=fun i j=>by
  have:=hv i j;rw [List.length_map,hP.len,List.take_length] at this;exact this
 have hin:∀ i j:Int,(zbr kvs (kP i j)).isSome=decide ((i,j)∈ps):=fun i j=>by
  by_cases q:(i,j)∈ps
  ·rw [decide_eq_true q];exact (hv i j).mpr q
  ·rw [decide_eq_false q];exact Bool.eq_false_iff.mpr fun z=>q ((hv i j).mp z)
 have ha2:=s2.at ha;have hb2:=s2.at hb;have hc2:=s2.at hc;have hP2:=hP.same s2;walk_at "r";refine z0n (xs:=ts.map V.ref) (SqL.of hP2.at_) ?_;have hlen:row.length=one.length+other.length:=by lia
 refine vf (zac (xs:=ts.map V.ref)) (fun n σ H3=>∃ (v7 v8:Option V),σ=[some (V.ref a),some (V.ref b),some (V.ref c),some (V.ref p),some (V.ref wh),some (V.ref d),v6,v7,v8]/\Same H2 H3/\∀ q∈ps.take n,Lf.z5u row one other ps q.1 q.2) ?_ ?_ ?_ ?_
 ·exact ⟨_,_,rfl,Same.refl _,fun q hq=>by simp at hq⟩
 ·rintro n σ H3 _ ⟨_,_,_,s3,_⟩;exact SqL.of (s3.at hP2.at_)
 ·rintro n v x σ H3 H3' hy ⟨v7,v8,rfl,s3,inv⟩ ⟨rfl,rfl⟩;rw [List.getElem?_map] at hy;obtain ⟨t,ht,rfl⟩:=Option.map_eq_some_iff.mp hy;have htp:=s3.at (hP2.row n t ht);have hnl:n<ps.length:=by rw [<- hP.len];exact (List.getElem?_eq_some_iff.mp ht).1
  have et:ps.take (n+1)=ps.take n++[ps.getD n (0,0)]:=by
   rw [List.take_add_one,List.getD_eq_getElem?_getD];simp [hnl]
  have hmem:ps.getD n (0,0)∈ps:=by
   rw [List.getD_eq_getElem?_getD];simp [hnl]
  generalize ps.getD n (0,0)=q at htp et hmem;obtain ⟨i,j⟩:=q;have ha3:=s3.at ha2;have hb3:=s3.at hb2;have hc3:=s3.at hc2;have hd3:=s3.at hd2;have s03:=s2.trans s3;have bad:¬ Lf.z5u row one other ps i j->∀ H',Same H H'->Q (.bl false) H':=fun h=>no fun z=>h (z.all _ hmem);have good:Lf.z5u row one other ps i j->∀ q∈ps.take (n+1),Lf.z5u row one other ps q.1 q.2:=by
   intro h q hq;rw [et,List.mem_append,List.mem_singleton] at hq;rcases hq with hq|rfl
   ·exact inv q hq
   ·exact h
  iterate 8 walk_at "q"
  refine z14 (!(decide (0<=i/\i<=(one.length:Int)/\0<=j/\j<=(other.length:Int)))) H3' (fun Q' k'=>?_) ?_
  ·walk_at "r";refine zaq (fun q1=>?_) (fun q1=>?_);rotate_left
   ·walk_at "r";rw [decide_eq_false (fun z=>q1 z.1)] at k';exact k'
   walk_at "r";refine zdj (fun q2=>?_) (fun q2=>?_)
   ·rw [decide_eq_false (fun z=>q2 z.2.1)] at k';exact k'
   walk_at "r";refine zaq (fun q3=>?_) (fun q3=>?_);rotate_left
   ·walk_at "r";rw [decide_eq_false (fun z=>q3 z.2.2.1)] at k';exact k'
   walk_at "r";by_cases q4:j<=(other.length:Int)
   ·rw [decide_eq_true ⟨q1,q2,q3,q4⟩] at k';rw [decide_eq_true q4];exact k'
   ·rw [decide_eq_false (fun z=>q4 z.2.2.2)] at k';rw [decide_eq_false q4];exact k'
  refine zdj (fun q=>?_) (fun q=>?_)
  ·walk_at "r";exact bad (fun z=>q ⟨z.i0,z.i1,z.j0,z.j1⟩) _ s03
  obtain ⟨q1,q2,q3,q4⟩:=q;walk_at "q";dsimp only;refine zpp (R:=fun H'=>Same H3' H'/\(i<(one.length:Int)->one.getD i.toNat 0=row.getD (i+j).toNat 0->(i+1,j)∈ps)) (fun N' k'=>?_) (fun H4 ⟨s4,nx⟩=>?_)
  ·walk_at "r";refine zaq (fun w1=>?_) (fun w1=>?_);rotate_left
   ·walk_at "r";exact k' _ ⟨Same.refl _,fun z=>absurd z w1⟩
   walk_at "r";refine zah (by walk_at "f") q1 (by lia) ?_;walk_at "r";refine zah (by walk_at "f") (by lia) (by lia) ?_;walk_at "r";refine zaq (fun w2=>?_) (fun w2=>?_);rotate_left
   ·walk_at "r";exact k' _ ⟨Same.refl _,fun _ z=>absurd z w2⟩
   walk_at "r";intro u hu0;walk_at "r";have du:d≠u:=zj hd3 hu0;refine zpx (kvs:=kvs) (i:=i+1) (j:=j) (by walk_at "f") (by walk_at "f") ?_;rw [hin,if_pos rfl];walk_at "r";refine zdj (fun w3=>?_) (fun w3=>?_)
   ·walk_at "r";exact bad (fun z=>w3 (z.nx w1 w2)) _ (by walk_at "s")
   ·walk_at "r";exact k' _ ⟨by walk_at "s",fun _ _=>w3⟩
  have ha4:=s4.at ha3;have hb4:=s4.at hb3;have hc4:=s4.at hc3;have hd4:=s4.at hd3;have s04:=s03.trans s4;have s24:=s3.trans s4;clear s3 s03 s4;walk_at "r";refine zaq (fun w1=>?_) (fun w1=>?_);rotate_left
  ·walk_at "r";exact ⟨_,_,rfl,s24,good ⟨q1,q2,q3,q4,nx,fun z=>absurd z w1⟩⟩
  walk_at "r";refine zah (by walk_at "f") q3 (by lia) ?_;walk_at "r";refine zah (by walk_at "f") (by lia) (by lia) ?_;walk_at "r";refine zaq (fun w2=>?_) (fun w2=>?_);rotate_left
  ·walk_at "r";exact ⟨_,_,rfl,s24,good ⟨q1,q2,q3,q4,nx,fun _ z=>absurd z w2⟩⟩
  walk_at "r";intro u hu0;walk_at "r";have du:d≠u:=zj hd4 hu0;refine zpx (kvs:=kvs) (i:=i) (j:=j+1) (by walk_at "f") (by walk_at "f") ?_;rw [hin,if_pos rfl];walk_at "r";refine zdj (fun w3=>?_) (fun w3=>?_)
  ·walk_at "r";exact bad (fun z=>w3 (z.ny w1 w2)) _ (by walk_at "s")
  ·walk_at "r";exact ⟨_,_,rfl,by walk_at "s",good ⟨q1,q2,q3,q4,nx,fun _ _=>w3⟩⟩
 ·rintro σ H3 ⟨v7,v8,rfl,s3,inv⟩;rw [List.length_map,hP.len,List.take_length] at inv;walk_at "r";have e:Lf.zc0 row one other ps=true:=Lf.zg5 ⟨hlen,h2,h3,inv⟩;rw [<- e];exact k _ (s2.trans s3)
noncomputable abbrev zjm:=bd 56
noncomputable abbrev zmx:List Str:=["_law_said","_law_due"]
noncomputable abbrev jz:List Str:=["_law_said","_law_due"]
theorem zl2:z7 zmx jz (zq zjm):=by walk_at "a"
noncomputable abbrev zjh:=bd 57
noncomputable abbrev znb:List Str:=["_law_some","_law_script","_law_found","_law_cell","_law_at"]
noncomputable abbrev vp:List Str:=["_law_some","_law_script"]
theorem zlu:z7 znb vp (zq zjh):=by walk_at "a"
noncomputable def za2:Sp:=fun vs H Q _=>∃ x y:Bool,vs=[.bl x,.bl y]/\Q (.bl (decide (x=y))) H
theorem zsr (F:Fun K "_law_says" "_law_says" zjm f fd) (T:Blt mg):qm P w K mg base CX0 1 f fd jz za2:=by
 refine F.ok zl2 (fun vs H Q E h=>by obtain ⟨_,_,rfl,_⟩:=h;rfl) fun cdv A outer s H vs Q E hr h=>?_;obtain ⟨x,y,rfl,k⟩:=h;have nd:=zl2.nd;have hu:=hr.units;refine ⟨_,(zp (qx (zcv (jk zbl rfl T.no_isinstance boot_isinstance (a2 (pv 0) (zsx rfl T.no_bool boot_bool))) (zd3 (ec (yp hu) (pv 0) (pv 1)))))),?_⟩;try simp only [ck1,ck2]
 rw [show L2.start zmx [V.bl x,V.bl y]=[some (V.bl x),some (V.bl y)] from rfl];walk_at "r";exact k
noncomputable def zcu (K:PySem.W.Frag):Sp:=fun vs H Q _=>∃ (a c:Addr) (xs ns:List Int),vs=[.ref a,.ref c]/\H a=some (.lst (xs.map V.int))/\SqL K H c (ns.map V.int)/\xs.length<=10000/\ns.length<=63/\∀ p (ys:List Int) H',H p=none->Same H H'->H' p=some (.lst (ys.map V.int))->ys.length<=xs.length+ns.length->Q (.ref p) H'
theorem zs0 (F:Fun K "_law_bent" "_law_bent" zjh f fd) (T:Blt mg):qm P w K mg base CX0 1 f fd vp (zcu K):=by
 refine F.ok zlu (fun vs H Q E h=>by obtain ⟨_,_,_,_,rfl,_⟩:=h;rfl) fun cdv A outer s H vs Q E hr h=>?_;obtain ⟨a,c,xs,ns,rfl,ha,hc,l1,l2,k⟩:=h;have nd:=zlu.nd;have hu:=hr.units;refine ⟨_,(za (sv 2 nd (lo T (pv 0)))
  (za (vq PassesOwn.never rfl (qb (pv 1)) (gv 3 nd) (za (sv 4 nd (z9 zcb (z9 zjk (pv 3) zc) (jk (zwc rfl) rfl T.no_max boot_max (a2 zc (ln T (pv 2))))))
  (za (zc2 (tc (yp hu) (z9 zcb (pv 3) zc) zc) (zp (sv 2 nd (z9 z8 (ju yo (pv 2) q9 (j4 (pv 4))) (ju yo (pv 2) (j4 (z9 z8 (pv 4) zc)) q9)))) vm)
  (za (zc2 (tc (yp hu) (z9 zcb (pv 3) zc) zc) (zp (sv 2 nd (z9 z8 (z9 z8 (ju yo (pv 2) q9 (j4 (pv 4))) (zr (a1 (z9 zak (z9 zcb (z9 zjk (pv 3) zc) zc) zc)))) (ju yo (pv 2) (j4 (pv 4)) q9)))) vm)
  (za (zc2 (PW.pt (zc8 (tc (yp hu) (z9 zcb (pv 3) zc) zc) (zd2 (tc (za8 hu) (pv 2) (zr qu))))) (zp (zy4 (z9 zak (z9 z8 (px (pv 2) (pv 4)) (z9 zcb (z9 zjk (pv 3) zc) zc)) zc) (zuf (pv 2) (pv 4) set_list))) vm)
  (zp (zc2 (PW.pt (zc8 (tc (yp hu) (z9 zcb (pv 3) zc) zc) (zd2 (tc (za8 hu) (pv 2) (zr qu))))) (zp (zy4 (yr (a2 (px (pv 2) zc) (px (pv 2) (pv 4)))) (zel (n:=2) rfl (jj (zuf (pv 2) (pv 4) set_list) (jj (zuf (pv 2) zc set_list) zb2))))) vm)))))))
  (zp (qx (pv 2))))),?_⟩
 try simp only [ck1,ck2]
 rw [show L2.start znb [V.ref a,V.ref c]=[some (V.ref a),some (V.ref c),none,none,none] from rfl];walk_at "r";intro p hp;have s1:Same H (upd H p (.lst (xs.map V.int))):=Same.upd_new hp;have hp1:(upd H p (.lst (xs.map V.int))) p=some (.lst (xs.map V.int)):=zb;generalize upd H p (.lst (xs.map V.int))=H1 at s1 hp1 ⊢;walk_at "r";refine vf (wz (ns:=ns)) (fun i σ H2=>∃ (p:Addr) (ys:List Int) (v3 v4:Option V),σ=[some (.ref a),some (.ref c),some (.ref p),v3,v4]/\Same H H2/\H p=none/\H2 p=some (.lst (ys.map V.int))/\ys.length<=xs.length+i) ?_ ?_ ?_ ?_
 ·exact ⟨p,xs,none,none,rfl,s1,hp,hp1,Nat.le_refl _⟩
 ·rintro i σ H2 _ ⟨_,_,_,_,_,s2,_⟩;exact s2.seq hc
 ·rintro i z x σ H2' H2 hy ⟨p,ys,v3,v4,rfl,s2,fp,hp,ly⟩ ⟨rfl,rfl⟩;have hi:i<ns.length:=(List.getElem?_eq_some_iff.mp hy).1;walk_at "r";have b1:0<=z/11%max 1 (ys.length:Int):=Int.emod_nonneg _ (by lia);have b2:z/11%max 1 (ys.length:Int)<max 1 (ys.length:Int):=Int.emod_lt_of_pos _ (by lia);generalize z/11%max 1 (ys.length:Int)=at' at b1 b2 ⊢;refine zaq (fun h0=>?_) (fun h0=>?_)
  ·walk_at "r";intro u1 hu1;walk_at "r";intro u2 hu2;refine zi1 (by walk_at "f") (by walk_at "f") (by simp;lia) ?_;intro q hq;walk_at "r";refine zaq (fun h1=>absurd h1 (by lia)) (fun h1=>?_);walk_at "r";refine zaq (fun h1=>absurd h1 (by lia)) (fun h1=>?_);walk_at "r";refine zaq (fun h1=>absurd h1 (by lia)) (fun h1=>?_);walk_at "r";exact ⟨q,_,_,_,rfl,by walk_at "s",by walk_at "h",zb,by simp;lia⟩
  walk_at "r";refine zaq (fun h1=>?_) (fun h1=>?_)
  ·walk_at "r";intro u1 hu1;walk_at "r";intro u2 hu2;refine zi1 (by walk_at "f") (by walk_at "f") (by simp;lia) ?_;intro u3 hu3;walk_at "r";intro u4 hu4;refine zi1 (by walk_at "f") (by walk_at "f") (by simp;lia) ?_;intro q hq;walk_at "r";refine zaq (fun h1=>absurd h1 (by lia)) (fun h1=>?_);walk_at "r";refine zaq (fun h1=>absurd h1 (by lia)) (fun h1=>?_);walk_at "r";exact ⟨q,_,_,_,rfl,by walk_at "s",by walk_at "h",zb,by simp;lia⟩
  walk_at "r";refine zaq (fun h2=>?_) (fun h2=>?_)
  ·walk_at "r";intro u1 hu1;walk_at "r";refine zdj (fun h3=>?_) (fun h3=>?_)
   ·have l0:0<ys.length:=List.length_pos_iff.mpr h3;walk_at "r";refine zah (by walk_at "f") b1 (by lia) ?_;walk_at "r";refine zyx (by walk_at "f") b1 (by lia) ?_;walk_at "r";refine zaq (fun h1=>absurd h1 (by lia)) (fun h1=>?_);walk_at "r";exact ⟨p,_,_,_,rfl,by walk_at "s",fp,zb,by simp;lia⟩
   ·walk_at "r";refine zaq (fun h1=>absurd h1 (by lia)) (fun h1=>?_);walk_at "r";exact ⟨p,ys,_,_,rfl,by walk_at "s",fp,by walk_at "f",by lia⟩
  walk_at "r";refine zaq (fun h4=>?_) (fun h4=>?_)
  ·walk_at "r";intro u1 hu1;walk_at "r";refine zdj (fun h3=>?_) (fun h3=>?_)
   ·have l0:0<ys.length:=List.length_pos_iff.mpr h3;walk_at "r";refine zah (by walk_at "f") (by lia) (by lia) ?_;walk_at "r";refine zah (by walk_at "f") b1 (by lia) ?_;walk_at "r";intro u2 hu2;walk_at "r";refine zyx (by walk_at "f") b1 (by lia) ?_;walk_at "r";refine zyx zb (by lia) (by simp;lia) ?_;walk_at "r";exact ⟨p,_,_,_,rfl,by walk_at "s",fp,zb,by simp;lia⟩
   ·walk_at "r";exact ⟨p,ys,_,_,rfl,by walk_at "s",fp,by walk_at "f",by lia⟩
  walk_at "r";exact ⟨p,ys,_,_,rfl,s2,fp,hp,by lia⟩
 ·rintro σ H2 ⟨p,ys,v3,v4,rfl,s2,fp,hp,ly⟩;walk_at "r";exact k p ys _ fp s2 hp ly
noncomputable abbrev zbm:=bd 58
noncomputable abbrev zdt:List Str:=["_law_row_here","_law_other","_law_script","_law_told","_law_last","_law_drawn","_law_places","_law_handed","_law_answers"]
noncomputable abbrev yx:List Str:=["_law_row_here","_law_other","_law_script"]
theorem zdd:z7 zdt yx (zq zbm):=by walk_at "a"
noncomputable def zdc (K:PySem.W.Frag):Sp:=fun vs H Q _=>∃ (a b c:Addr) (row other ns:List Int),vs=[.ref a,.ref b,.ref c]/\H a=some (.lst (row.map V.int))/\H b=some (.lst (other.map V.int))/\SqL K H c (ns.map V.int)/\row.length<=200/\other.length<=200/\ns.length<=63/\∀ H',Same H H'->Q (.bl true) H'
theorem zic (F:Fun K "_law_places_right" "_law_places_right" zbm f fd) (T:Blt mg)
  (z13:Cal K mg "left" f1 fd1 zsa) (z1l:qm P w K mg base CX0 8 f1 fd1 zsa (zw2 zax vd))
  (uz:Cal K mg "_law_bent" f2 fd2 vp) (uw:qm P w K mg base CX0 1 f2 fd2 vp (zcu K))
  (yc:Cal K mg "_law_says" f3 fd3 jz) (xj:qm P w K mg base CX0 1 f3 fd3 jz za2)
  (xg:Cal K mg "_law_stands" f4 fd4 jn) (xu:qm P w K mg base CX0 1 f4 fd4 jn (zam K))
  (zrn:Cal K mg "_law_short" f5 fd5 zck) (zst:qm P w K mg base CX0 2 f5 fd5 zck (zka K))
  (zcq:Met K zax "shows" f6 fd6 zau) (zgv:qm P w K mg base CX0 8 f6 fd6 zau (zf6 zax))
  (j7:Met K vd "shows" f7 fd7 zab) (za4:qm P w K mg base CX0 8 f7 fd7 zab (zey vd))
  (zru:Mak K mg "Left" zax f8 fd8 j8) (zar:qm P w K mg base CX0 1 f8 fd8 j8 (zet zax))
  (zg1:Mak K mg "Short" vd f9 fd9 jx) (ye:qm P w K mg base CX0 1 f9 fd9 jx (zet vd))
  (zsn:Ins K zax) (zhz:Ins K vd) (zkq:jb K zax "places") (zi6:jb K vd "places")
  : qm P w K mg base CX0 9 f fd yx (zdc K):=by
 refine F.ok zdd (fun vs H Q E h=>by obtain ⟨_,_,_,_,_,_,rfl,_⟩:=h;rfl) fun cdv A outer s H vs Q E hr h=>?_;obtain ⟨a,b,c,row,other,ns,rfl,ha,hb,hc,l1,l2,l3,k⟩:=h;have nd:=zdd.nd;have hu:=hr.units;refine ⟨_,(za (sv 3 nd (qg (fcl z1l hr z13 (a2 (pv 0) (pv 1))) rfl))
  (za (sv 4 nd (zbt (pcm (N:=["_law_place","_law_row_here"]) (caps:=[0]) (qb (qg (fcl z1l hr z13 (a2 (zbt (pv 0) q9 q9 (zdh zao zc)) (zbt (pv 1) q9 q9 (zdh zao zc)))) rfl)) (fun _ _ _ _=>⟨_,(z9 zak (z9 zak (ln T (pv 1)) zc) (pv 0)),by walk_at "c"⟩)) q9 q9 (zdh zao zc)))
  (za (zmv (N:=["_law_place","_law_cell"]) (k:=2) (caps:=[]) (Block.of (by kernel_rfl)) rfl (zjv rfl T.no_enumerate boot_enumerate (a1 (ju yo (pv 2) q9 (j4 (ln T (pv 0)))))) (fun _ _ _ _=>⟨_,(zel (n:=2) rfl (jj (gv 0 (by show List.Nodup (["_law_place","_law_cell"]:List Str);decide)) (jj (gv 1 (by show List.Nodup (["_law_place","_law_cell"]:List Str);decide)) zb2))),by walk_at "c"⟩) (fun _ _ _ _=>⟨_,(zth.one (tc (yp hu) (z9 zcb (z9 zjk (pv 1) zc) zc) zc)),by walk_at "c"⟩) (fun _ _ _ _=>⟨_,(pv 0),by walk_at "c"⟩) nd (i:=5) rfl rfl (by with_unfolding_all rfl))
  (za (vq PassesOwn.never rfl (qb (zr (zm (pv 3) (zm (pv 4) (zm (fcl uw hr uz (a2 (pv 3) (pv 2))) (zm (pv 5) (zm (ju yo (pv 3) q9 (j4 (zdh zao zc))) (zm (zr qu) (zm (z9 z8 (zr (a1 (zdh zao zc))) (pv 3)) qu))))))))) (gv 6 nd) (za (sv 7 nd (lo T (pv 6)))
  (za (sv 8 nd (zr (a2 (fmk zru zar hr (a1 (pv 7))) (fmk zg1 ye hr (a1 (pv 7))))))
  (za (pap (pv 7) zc)
  (za (pif (PW.pt (zc6 (tc (za8 hu) (qg (px (pv 8) zc) rfl) (pv 6)) (zbd (tc (za8 hu) (qg (px (pv 8) zc) rfl) (pv 6))))))
  (za (pif (yj (j5 (fcl xj hr yc (a2 (yq (px (pv 8) zc) zsn.cl zcq.m zgv (hr.mono (by decide)) zcq.b .nil zb9 (a2 (pv 0) (pv 1))) (fcl xu hr xg (a3 (pv 0) (pv 6) (pv 1))))))))
  (zp (pif (yj (j5 (fcl xj hr yc (a2 (yq (px (pv 8) zc) zhz.cl j7.m za4 (hr.mono (by decide)) j7.b .nil zb9 (a2 (pv 0) (pv 1))) (fcl zst hr zrn (a3 (pv 0) (pv 1) (pv 6)))))))))))))))
  (zp (qx zf5)))))),?_⟩
 try simp only [ck1,ck2]
 rw [show L2.start zdt [V.ref a,V.ref b,V.ref c]=[some (V.ref a),some (V.ref b),some (V.ref c),none,none,none,none,none,none] from rfl];walk_at "r";refine ⟨a,b,row,other,rfl,ha,hb,by lia,by lia,fun C x dx pl ps H1 fx fpl xpl s1 hx hpl hC lps=>?_⟩;have iC:Ins K C:=by rcases hC with rfl|rfl<;>assumption
 have nC:jb K C "places":=by rcases hC with rfl|rfl<;>assumption
 clear hC;walk_at "r";have ha1:=s1.at ha;have hb1:=s1.at hb;have hc1:=s1.seq hc;clear hx fx xpl iC nC;intro r1 hr1;walk_at "r";intro r2 hr2;walk_at "r";refine ⟨r1,r2,row.reverse,other.reverse,rfl,by walk_at "f",by walk_at "f",by rw [List.length_reverse];lia,by rw [List.length_reverse];lia,fun C2 x2 dx2 pl2 ps2 H2 fx2 fpl2 xpl2 s2 hx2 hpl2 hC2 lps2=>?_⟩;rw [List.length_reverse] at lps2;have iC2:Ins K C2:=by rcases hC2 with rfl|rfl<;>assumption
 have nC2:jb K C2 "places":=by rcases hC2 with rfl|rfl<;>assumption
 clear hC2;have s12:Same H1 H2:=by walk_at "s"
 clear s2 hr1 hr2;have ha2:=s12.at ha1;walk_at "r";clear iC2 nC2;refine zbf (wz (ns:=ps2)) (fun z=>(row.length:Int)-1-z) (fun H' s'=>SqL.of (s'.at hpl2)) (by lia) ?_ ?_
 ·rintro i z x' H3 H4 R R' hi s3 ⟨rfl,rfl⟩ h1;have ha3:=s3.at ha2;walk_at "r";refine ⟨⟨rfl,rfl⟩,?_⟩;walk_at "r";exact h1 _ (Same.refl _)
 intro D0 H3 hD0 s23 hd0;have lq:(ps2.map fun z=>(row.length:Int)-1-z).length<=200:=by rw [List.length_map];lia
 generalize (ps2.map fun z=>(row.length:Int)-1-z)=qs at hd0 lq;have s13:=s12.trans s23;have ha3:=s13.at ha1;have hc3:=s13.seq hc1;clear s12 s23 hx2 hpl2 fx2 fpl2 xpl2 hD0 ha2;walk_at "r";intro l0 hl0;walk_at "r";intro u1 hu1;walk_at "r";have lt0:(ns.take (row.length:Int).toNat).length<=63:=by rw [List.length_take];lia
 generalize ns.take (row.length:Int).toNat=us at hu1 lt0 ⊢;have s34:Same H3 (upd (upd H3 l0 (.lst (qs.reverse.map V.int))) u1 (.lst (us.map V.int))):=(Same.upd_new hl0).trans (Same.upd_new hu1);have hl4:(upd (upd H3 l0 (.lst (qs.reverse.map V.int))) u1 (.lst (us.map V.int))) l0=some (.lst (qs.reverse.map V.int)):=zu zb hu1;have hu4:(upd (upd H3 l0 (.lst (qs.reverse.map V.int))) u1 (.lst (us.map V.int))) u1=some (.lst (us.map V.int)):=zb;generalize (upd (upd H3 l0 (.lst (qs.reverse.map V.int))) u1 (.lst (us.map V.int)))=H4 at s34 hl4 hu4 ⊢;have lq':qs.reverse.length<=200:=by rw [List.length_reverse];exact lq
 generalize qs.reverse=qs' at hl4 lq';have s14:=s13.trans s34;clear s13 s34 hl0 hu1 hd0 ha3 hc3;refine zfb (zh5 (xs:=us)) (fun y=>decide (y.1/3%2=0)) (fun y=>(y.2:Int)) (fun H' s'=>SqL.of (s'.at hu4)) (by rw [List.length_zipIdx];lia) ?_ ?_
 ·rintro i ⟨z,j⟩ x' H5 H6 R R' hi s5 ⟨T',hT,rfl,rfl⟩ h3 h4;walk_at "r";refine ⟨⟨rfl,rfl⟩,?_⟩;walk_at "r";refine zaq (fun h5=>?_) (fun h5=>?_)
  ·walk_at "r";exact h3 (decide_eq_true h5) _ (by walk_at "s")
  ·exact h4 (decide_eq_false h5) _ (by walk_at "s")
 intro D1 H5 hD1 s45 hd1;have ld:((us.zipIdx.filter (fun y=>decide (y.1/3%2=0))).map (fun y=>(y.2:Int))).length<=63:=by
  rw [List.length_map];refine Nat.le_trans (List.length_filter_le _ _) ?_;rw [List.length_zipIdx];exact lt0
 generalize ((us.zipIdx.filter (fun y=>decide (y.1/3%2=0))).map (fun y=>(y.2:Int)))=ds at hd1 ld;have s15:=s14.trans s45;have hl5:=s45.at hl4;have hp5:=s15.at hpl;have hc5:=s15.seq hc1;clear s14 s45 hu4 hl4 hD1;walk_at "r";refine ⟨pl,c,ps,ns,rfl,hp5,hc5,by lia,l3,fun p6 ys H6 hp6 s56 h6 ly=>?_⟩;have s16:=s15.trans s56;have hl6:=s56.at hl5;have hd6:=s56.at hd1;have hpl6:=s56.at hp5;clear s15 s56 hl5 hd1 hp5 hc5 hp6;walk_at "r";intro v1 hv1;walk_at "r";intro v2 hv2;walk_at "r";intro v3 hv3;walk_at "r";refine zi1 (xs:=[-1]) (by walk_at "f") (by walk_at "f") (by simp;lia) ?_;intro v4 hv4;walk_at "r";intro g hg;generalize hH7:upd _ g (HO.lst [V.ref pl,V.ref l0,V.ref p6,V.ref D1,V.ref v1,V.ref v2,V.ref v4])=H7;have s67:Same H6 H7:=by rw [<- hH7];walk_at "s"
 have hg7:H7 g=some (.lst [V.ref pl,V.ref l0,V.ref p6,V.ref D1,V.ref v1,V.ref v2,V.ref v4]):=by rw [<- hH7];walk_at "f"
 have all7:∀ v∈[V.ref pl,V.ref l0,V.ref p6,V.ref D1,V.ref v1,V.ref v2,V.ref v4],∃ (d:Addr) (L:List Int),v=.ref d/\H7 d=some (.lst (L.map V.int))/\L.length<=400:=by
  intro v hv;simp only [List.mem_cons,List.mem_nil_iff,or_false] at hv;rcases hv with rfl|rfl|rfl|rfl|rfl|rfl|rfl
  ·exact ⟨pl,ps,rfl,s67.at hpl6,by lia⟩
  ·exact ⟨l0,qs',rfl,s67.at hl6,by lia⟩
  ·exact ⟨p6,ys,rfl,s67.at h6,by lia⟩
  ·exact ⟨D1,ds,rfl,s67.at hd6,by lia⟩
  ·exact ⟨v1,_,rfl,by rw [<- hH7];walk_at "f",by simp;lia⟩
  ·exact ⟨v2,[],rfl,by rw [<- hH7];walk_at "f",by simp⟩
  ·exact ⟨v4,_,rfl,by rw [<- hH7];walk_at "f",by simp;lia⟩
 have s17:=s16.trans s67;have ha7:=s17.at ha1;have hb7:=s17.at hb1;have s07:=s1.trans s17;clear hH7 hv1 hv2 hv3 hv4 hg s67 s16 hpl6 hl6 h6 hd6;walk_at "r";refine vf (zac (xs:=[V.ref pl,V.ref l0,V.ref p6,V.ref D1,V.ref v1,V.ref v2,V.ref v4])) (fun i σ H8=>∃ v6 v7 v8:Option V,σ=[some (.ref a),some (.ref b),some (.ref c),some (.ref pl),some (.ref l0),some (.ref D1),v6,v7,v8]/\Same H7 H8) ?_ ?_ ?_ ?_
 ·exact ⟨_,_,_,rfl,Same.refl _⟩
 ·rintro i σ H8 _ ⟨_,_,_,_,s8⟩;exact SqL.of (s8.at hg7)
 ·rintro i v y σ H8' H8 hy ⟨v6,v7,v8,rfl,s8⟩ ⟨rfl,rfl⟩;obtain ⟨d,L,rfl,hd,hL⟩:=all7 _ (List.mem_of_getElem? hy);have hd8:=s8.at hd;have ha8:=s8.at ha7;have hb8:=s8.at hb7;clear all7 hd;walk_at "r";intro u hu';have hu9:(upd H8 u (.lst (L.map V.int))) u=some (.lst (L.map V.int)):=zb;have s89:Same H8 (upd H8 u (.lst (L.map V.int))):=Same.upd_new hu';generalize upd H8 u (.lst (L.map V.int))=H9 at hu9 s89 ⊢;walk_at "r";intro x1 dx1 hx1 hdx1 xd1;refine ⟨x1,dx1,u,L,rfl,zb,qe hx1 hdx1 hu9,fun p1 H10 hp1 b10 o1 q1=>⟨rfl,?_⟩⟩;have s910:=jl hx1 hdx1 b10;have fp1:=zb7 hp1;have hu10:=s910.at hu9;have p1u:p1≠u:=fun e=>by rw [e,hu9] at fp1;cases fp1
  have x1u:x1≠u:=fun e=>by rw [e,hu9] at hx1;cases hx1
  clear b10 hp1 hx1 hdx1;walk_at "r";intro x2 dx2 hx2 hdx2 xd2;refine ⟨x2,dx2,u,L,rfl,zb,qe hx2 hdx2 hu10,fun p2 H11 hp2 b11 o2 q2=>⟨rfl,?_⟩⟩;have s1011:=jl hx2 hdx2 b11;have fp2:=zb7 hp2;have p2u:p2≠u:=fun e=>by rw [e,hu10] at fp2;cases fp2
  have x2u:x2≠u:=fun e=>by rw [e,hu10] at hx2;cases hx2
  have o11:=s1011.at o1;have q11:=s1011.at q1;have hu11:=s1011.at hu10;have s811:Same H8 H11:=s89.trans (s910.trans s1011);clear b11 hp2 hx2 hdx2 s89 s910 s1011 o1 q1 hu10 hu9;walk_at "r";intro g2 hg2;have g2u:u≠g2:=zj hu11 hg2;have s812:Same H8 (upd H11 g2 (.lst [.ref x1,.ref x2])):=s811.trans (Same.upd_new hg2);have o12:=zu (o:=.lst [.ref x1,.ref x2]) o11 hg2;have q12:=zu (o:=.lst [.ref x1,.ref x2]) q11 hg2;have o22:=zu (o:=.lst [.ref x1,.ref x2]) o2 hg2;have q22:=zu (o:=.lst [.ref x1,.ref x2]) q2 hg2;have hu12:=zu (o:=.lst [.ref x1,.ref x2]) hu11 hg2;have hg12:(upd H11 g2 (.lst [.ref x1,.ref x2])) g2=some (.lst [.ref x1,.ref x2]):=zb;generalize upd H11 g2 (.lst [.ref x1,.ref x2])=H12 at s812 o12 q12 o22 q22 hu12 hg12 ⊢;clear o11 q11 o2 q2 hu11 hg2 s811;walk_at "r";refine zda hu12 (by lia) ?_;have s813:Same H8 (upd H12 u (.lst ((L++[0]).map V.int))):=by walk_at "s"
  have o13:=zf (o:=.lst ((L++[0]).map V.int)) o12 x1u;have q13:=zf (o:=.lst ((L++[0]).map V.int)) q12 p1u;have o23:=zf (o:=.lst ((L++[0]).map V.int)) o22 x2u;have q23:=zf (o:=.lst ((L++[0]).map V.int)) q22 p2u;have hg13:=zf (o:=.lst ((L++[0]).map V.int)) hg12 (Ne.symm g2u);generalize upd H12 u (.lst ((L++[0]).map V.int))=H13 at s813 o13 q13 o23 q23 hg13 ⊢;clear s812 o12 q12 o22 q22 hu12 hg12;have hd13:=s813.at hd8;have ha13:=s813.at ha8;have hb13:=s813.at hb8;walk_at "r";refine ⟨x1,dx1,p1,a,b,L,row,other,rfl,o13,q13,ha13,hb13,by lia,by lia,by lia,fun H14 s14=>?_⟩;have s814:=s813.trans s14;have o24:=s14.at o23;have q24:=s14.at q23;have hg14:=s14.at hg13;have ha14:=s14.at ha13;have hb14:=s14.at hb13;have hd14:=s14.at hd13;clear s813 s14 o13 q13 o23 q23 hg13 ha13 hb13 hd13;walk_at "r";refine ⟨a,d,b,row,L,other,rfl,SqL.of ha14,SqL.of hd14,SqL.of hb14,fun H15 s15=>?_⟩;have s815:=s814.trans s15;have o25:=s15.at o24;have q25:=s15.at q24;have hg15:=s15.at hg14;have ha15:=s15.at ha14;have hb15:=s15.at hb14;have hd15:=s15.at hd14;clear s814 s15 o24 q24 hg14 ha14 hb14 hd14;walk_at "r";refine ⟨_,_,rfl,?_⟩;walk_at "r";refine ⟨x2,dx2,p2,a,b,L,row,other,rfl,o25,q25,ha15,hb15,by lia,by lia,by lia,fun H16 s16=>?_⟩;walk_at "r";refine ⟨a,b,d,row,other,L,rfl,SqL.of (s16.at ha15),SqL.of (s16.at hb15),s16.at hd15,by lia,fun H17 s17=>?_⟩;walk_at "r";refine ⟨_,_,rfl,?_⟩;walk_at "r";exact ⟨_,_,_,rfl,s8.trans (s815.trans (s16.trans s17))⟩
 ·rintro σ H8 ⟨v6,v7,v8,rfl,s8⟩;walk_at "r";exact k _ (s07.trans s8)
noncomputable abbrev za9:=bd 61
noncomputable abbrev zc9:List Str:=["_law_row_here","_law_script","_law_kinds","_law_found","_law_words","_law_cuts","_law_word","_law_handed","_law_answer"]
noncomputable abbrev yt:List Str:=["_law_row_here","_law_script"]
theorem zcs:z7 zc9 yt (zq za9):=by walk_at "a"
noncomputable def zcn (K:PySem.W.Frag):Sp:=fun vs H Q _=>∃ (a c:Addr) (row ns:List Int),vs=[.ref a,.ref c]/\H a=some (.lst (row.map V.int))/\SqL K H c (ns.map V.int)/\row.length<=63/\ns.length<=63/\∀ H',Same H H'->Q (.bl true) H'
theorem zhx (F:Fun K "_law_missing_right" "_law_missing_right" za9 f fd) (T:Blt mg)
  (zx5:Cal K mg "missing" f1 fd1 zhu) (zxr:qm P w K mg base CX0 8 f1 fd1 zhu (zpz jc))
  (uz:Cal K mg "_law_bent" f2 fd2 vp) (uw:qm P w K mg base CX0 1 f2 fd2 vp (zcu K))
  (yc:Cal K mg "_law_says" f3 fd3 jz) (xj:qm P w K mg base CX0 1 f3 fd3 jz za2)
  (zqt:Cal K mg "_law_missed" f4 fd4 zb8) (zq8:qm P w K mg base CX0 2 f4 fd4 zb8 ziw)
  (j6:Met K jc "shows" f5 fd5 vh) (zay:qm P w K mg base CX0 8 f5 fd5 vh (zc4 jc))
  (zd8:Mak K mg "Missing" jc f6 fd6 ji) (xx:qm P w K mg base CX0 1 f6 fd6 ji (zmq jc))
  (zdy:Ins K jc) (zio:jb K jc "cuts") (zit:jb K jc "word")
  : qm P w K mg base CX0 9 f fd yt (zcn K):=by
 refine F.ok zcs (fun vs H Q E h=>by obtain ⟨_,_,_,_,rfl,_⟩:=h;rfl) fun cdv A outer s H vs Q E hr h=>?_;obtain ⟨a,c,row,ns,rfl,ha,hc,l1,l3,k⟩:=h;have nd:=zcs.nd;have hu:=hr.units;refine ⟨_,(za (vq PassesOwn.never rfl (qb (zr (a3 zc zc (z9 z8 zc (z9 zcb (jk (zkj rfl) rfl T.no_sum boot_sum (a1 (pv 1))) zc))))) (gv 2 nd) (za (sv 3 nd (fcl zxr hr zx5 (a2 (pv 0) (pv 2))))
  (za (sv 4 nd (zr (a3 (qg (pv 3) rfl) (pcm (N:=["_law_cell"]) (caps:=[]) (qb (ju yo (pv 1) q9 (j4 (z9 z8 (ln T (qg (pv 3) rfl)) zc)))) (fun _ _ _ _=>⟨_,(z9 zcb (pv 0) zc),by walk_at "c"⟩)) (fcl uw hr uz (a2 (qg (pv 3) rfl) (pv 1))))))
  (zp (vq PassesOwn.never rfl (qb (zr (zm (qg (pv 3) rfl) (zm (pcm (N:=["_law_cut"]) (caps:=[]) (qb (qg (pv 3) rfl)) (fun _ _ _ _=>⟨_,(z9 z8 (pv 0) zc),by walk_at "c"⟩)) (zm (fcl uw hr uz (a2 (qg (pv 3) rfl) (pv 1))) (zm (ju yo (qg (pv 3) rfl) q9 (j4 (zdh zao zc))) qu)))))) (gv 5 nd) (zp (vq PassesOwn.never rfl (qb (pv 4)) (gv 6 nd) (za (sv 7 nd (zr (a2 (lo T (pv 5)) (lo T (pv 6)))))
  (za (sv 8 nd (fmk zd8 xx hr (a2 (px (pv 7) zc) (px (pv 7) zc))))
  (za (pap (px (pv 7) zc) zc)
  (za (pap (px (pv 7) zc) zc)
  (za (pif (tc (za8 hu) (zr (a2 (qg (pv 8) rfl) (qg (pv 8) rfl))) (zr (a2 (pv 5) (pv 6)))))
  (zp (pif (yj (j5 (fcl xj hr yc (a2 (yq (pv 8) zdy.cl j6.m zay (hr.mono (by decide)) j6.b .nil zb9 (a2 (pv 0) (pv 2))) (fcl zq8 hr zqt (zm (pv 0) (zm (pv 2) (zm (pv 5) (zm (pv 6) qu)))))))))))))))))))))))
  (zp (qx zf5))),?_⟩
 try simp only [ck1,ck2]
 rw [show L2.start zc9 [V.ref a,V.ref c]=[some (V.ref a),some (V.ref c),none,none,none,none,none,none,none] from rfl];walk_at "r";have m0:0<=ns.sum%4:=Int.emod_nonneg _ (by decide);generalize ns.sum%4=m at m0 ⊢;intro g hg;have hg1:(upd H g (.lst (([2,3,1+m]:List Int).map V.int))) g=some (.lst (([2,3,1+m]:List Int).map V.int)):=zb;have s1:Same H (upd H g (.lst (([2,3,1+m]:List Int).map V.int))):=Same.upd_new hg;generalize upd H g (.lst (([2,3,1+m]:List Int).map V.int))=H1 at hg1 s1 ⊢;have ha1:=s1.at ha;have hc1:=s1.seq hc;walk_at "r";refine vf (wz (ns:=[2,3,1+m])) (fun i σ H2=>∃ v2 v3 v4 v5 v6 v7 v8:Option V,σ=[some (.ref a),some (.ref c),v2,v3,v4,v5,v6,v7,v8]/\Same H1 H2) ?_ ?_ ?_ ?_
 ·exact ⟨_,_,_,_,_,_,_,rfl,Same.refl _⟩
 ·rintro i σ H2 _ ⟨_,_,_,_,_,_,_,_,s2⟩;exact SqL.of (s2.at hg1)
 ·rintro i kinds y σ H2' H2 hy ⟨v2,v3,v4,v5,v6,v7,v8,rfl,s2⟩ ⟨rfl,rfl⟩;have hk:1<=kinds:=by
   have:=List.mem_of_getElem? hy;simp only [List.mem_cons,List.mem_nil_iff,or_false] at this;lia
  have ha2:=s2.at ha1;have hc2:=s2.seq hc1;walk_at "r";refine ⟨a,row,kinds,rfl,ha2,by lia,hk,fun x dx fs c0 q0 cuts word H3 fx fc0 fq0 cq s3 L wl cl=>?_⟩;obtain ⟨hx,fc,fw,fn,hc0,hq0⟩:=id L;clear L fx fc0 fq0 cq;have hc3:=s3.seq hc2;walk_at "r";intro u hu';have lt0:(ns.take ((cuts.length:Int)+1).toNat).length<=63:=by rw [List.length_take];lia
  generalize ns.take ((cuts.length:Int)+1).toNat=us at lt0 ⊢;have hu4:(upd H3 u (.lst (us.map V.int))) u=some (.lst (us.map V.int)):=zb;have s34:Same H3 (upd H3 u (.lst (us.map V.int))):=Same.upd_new hu';generalize upd H3 u (.lst (us.map V.int))=H4 at hu4 s34 ⊢;walk_at "r";refine zbf (wz (ns:=us)) (fun z=>z%3) (fun H' s'=>SqL.of (s'.at hu4)) (by lia) ?_ ?_
  ·rintro i z x' H5 H6 R R' hi s5 ⟨rfl,rfl⟩ h1;walk_at "r";refine ⟨⟨rfl,rfl⟩,?_⟩;walk_at "r";exact h1 _ (Same.refl _)
  intro D1 H5 hD1 s45 hd1;have ld:(us.map fun z=>z%3).length<=63:=by rw [List.length_map];exact lt0
  generalize (us.map fun z=>z%3)=ds at hd1 ld;have s35:=s34.trans s45;have hx5:=s35.at hx;have hc5:=s35.at hc0;have hq5:=s35.at hq0;have hs5:=s35.seq hc3;clear s34 s45 hu4 hD1 hu' hx hc0 hq0;walk_at "r";refine ⟨q0,c,word,ns,rfl,hq5,hs5,by lia,l3,fun p6 ys H6 hp6 s56 h6 ly=>?_⟩;walk_at "r";intro g2 hg2;have hg7:(upd H6 g2 (.lst [.ref q0,.ref D1,.ref p6])) g2=some (.lst [.ref q0,.ref D1,.ref p6]):=zb;have s67:Same H6 (upd H6 g2 (.lst [.ref q0,.ref D1,.ref p6])):=Same.upd_new hg2;generalize upd H6 g2 (.lst [.ref q0,.ref D1,.ref p6])=H7 at hg7 s67 ⊢;have s57:=s56.trans s67;have hx7:=s57.at hx5;have hc7:=s57.at hc5;have hs7:=s57.seq hs5;have hq7:=s57.at hq5;have hd7:=s57.at hd1;have h67:=s67.at h6;have words:∀ v∈[V.ref q0,V.ref D1,V.ref p6],∃ (d:Addr) (L:List Int),v=.ref d/\H7 d=some (.lst (L.map V.int))/\L.length<=400:=by
   intro v hv;simp only [List.mem_cons,List.mem_nil_iff,or_false] at hv;rcases hv with rfl|rfl|rfl
   ·exact ⟨q0,word,rfl,hq7,by lia⟩
   ·exact ⟨D1,ds,rfl,hd7,by lia⟩
   ·exact ⟨p6,ys,rfl,h67,by lia⟩
  have s27:=s3.trans (s35.trans s57);clear hg2 s56 s67 s57 hx5 hc5 hs5 hq5 hd1 h6 s35 s3 hp6 hq7 hd7 h67;walk_at "r";refine zbf (wz (ns:=cuts)) (fun z=>z+1) (fun H' s'=>SqL.of (s'.at hc7)) (by lia) ?_ ?_
  ·rintro i z x' H8 H9 R R' hi s8 ⟨rfl,rfl⟩ h1;walk_at "r";refine ⟨⟨rfl,rfl⟩,?_⟩;walk_at "r";exact h1 _ (Same.refl _)
  intro D2 H8 hD2 s78 hd2;have ld2:(cuts.map fun z=>z+1).length<=63:=by rw [List.length_map];lia
  generalize (cuts.map fun z=>z+1)=ds2 at hd2 ld2;have hx8:=s78.at hx7;have hc8:=s78.at hc7;have hs8:=s78.seq hs7;walk_at "r";refine ⟨c0,c,cuts,ns,rfl,hc8,hs8,by lia,l3,fun p9 ys9 H9 hp9 s89 h9 ly9=>?_⟩;have hx9:=s89.at hx8;have hc9:=s89.at hc8;have hd9:=s89.at hd2;have s79:=s78.trans s89;clear s78 s89 hx8 hc8 hs8 hd2 hD2 hp9;walk_at "r";intro v1 hv1;walk_at "r";intro g3 hg3;generalize hH10:upd _ g3 (HO.lst [V.ref c0,V.ref D2,V.ref p9,V.ref v1])=H10;have s910:Same H9 H10:=by rw [<- hH10];walk_at "s"
  have hg10:H10 g3=some (.lst [V.ref c0,V.ref D2,V.ref p9,V.ref v1]):=by rw [<- hH10];walk_at "f"
  have cutss:∀ v∈[V.ref c0,V.ref D2,V.ref p9,V.ref v1],∃ (d:Addr) (L:List Int),v=.ref d/\H10 d=some (.lst (L.map V.int))/\L.length<=400:=by
   intro v hv;simp only [List.mem_cons,List.mem_nil_iff,or_false] at hv;rcases hv with rfl|rfl|rfl|rfl
   ·exact ⟨c0,cuts,rfl,s910.at hc9,by lia⟩
   ·exact ⟨D2,ds2,rfl,s910.at hd9,by lia⟩
   ·exact ⟨p9,ys9,rfl,s910.at h9,by lia⟩
   ·exact ⟨v1,_,rfl,by rw [<- hH10];walk_at "f",by simp;lia⟩
  have s710:=s79.trans s910;have hg7':=s710.at hg7;have ha10:=(s27.trans s710).at ha2;have s110:=s2.trans (s27.trans s710);clear hH10 hv1 hg3 hx9 hc9 hd9 h9 s79 s910;walk_at "r";refine vf (zac (xs:=[V.ref c0,V.ref D2,V.ref p9,V.ref v1])) (fun i σ H11=>∃ v5 v6 v7 v8:Option V,σ=[some (.ref a),some (.ref c),some (.int kinds),some (.ref x),some (.ref g2),v5,v6,v7,v8]/\Same H10 H11) ?_ ?_ ?_ ?_
  ·exact ⟨_,_,_,_,rfl,Same.refl _⟩
  ·rintro i σ H11 _ ⟨_,_,_,_,_,s11⟩;exact SqL.of (s11.at hg10)
  ·rintro i v y σ H11' H11 hy ⟨v5,v6,v7,v8,rfl,s11⟩ ⟨rfl,rfl⟩;obtain ⟨d,L,rfl,hd,hL⟩:=cutss _ (List.mem_of_getElem? hy);have hd11:=s11.at hd;have hg11:=s11.at hg7';clear cutss hd;walk_at "r";refine vf (zac (xs:=[V.ref q0,V.ref D1,V.ref p6])) (fun i σ H12=>∃ v6 v7 v8:Option V,σ=[some (.ref a),some (.ref c),some (.int kinds),some (.ref x),some (.ref g2),some (.ref d),v6,v7,v8]/\Same H11 H12) ?_ ?_ ?_ ?_
   ·exact ⟨_,_,_,rfl,Same.refl _⟩
   ·rintro i σ H12 _ ⟨_,_,_,_,s12⟩;exact SqL.of (s12.at hg11)
   ·rintro i v y σ H12' H12 hy ⟨v6,v7,v8,rfl,s12⟩ ⟨rfl,rfl⟩;obtain ⟨e,W,rfl,he,hW⟩:=words _ (List.mem_of_getElem? hy);have he12:=s12.at (s11.at (s710.at he));have hd12:=s12.at hd11;have ha12:=s12.at (s11.at ha10);clear words he;walk_at "r";intro u1 hu1;walk_at "r";intro u2 hu2;walk_at "r";intro hh hhh;generalize hH13:upd _ hh (HO.lst [V.ref u1,V.ref u2])=H13;have s1213:Same H12 H13:=by rw [<- hH13];walk_at "s"
    have hu1':H13 u1=some (.lst (L.map V.int)):=by rw [<- hH13];walk_at "f"
    have hu2':H13 u2=some (.lst (W.map V.int)):=by rw [<- hH13];walk_at "f"
    have hh13:H13 hh=some (.lst [.ref u1,.ref u2]):=by rw [<- hH13];walk_at "f"
    have u12:u1≠u2:=zj zb hu2;have fu1:H12 u1=none:=hu1;have fu2:H12 u2=none:=zy hu2;have hu1h:u1≠hh:=zj (zu zb hu2) hhh;have hu2h:u2≠hh:=zj zb hhh;clear hH13 hu1 hu2 hhh;walk_at "r";intro x1 dx1 hx1 hdx1 xd1;refine ⟨x1,dx1,u1,u2,L,W,rfl,zb,qe hx1 hdx1 hu1',qe hx1 hdx1 hu2',fun fs1 c1 q1 H14 hc1' hq1' cq1 b14 M=>⟨rfl,?_⟩⟩;have s1314:=jl hx1 hdx1 b14;have fc1:=zb7 hc1';have fq1:=zb7 hq1';have x1u1:x1≠u1:=fun e=>by rw [e,hu1'] at hx1;cases hx1
    have x1u2:x1≠u2:=fun e=>by rw [e,hu2'] at hx1;cases hx1
    have c1u1:c1≠u1:=fun e=>by rw [e,hu1'] at fc1;cases fc1
    have c1u2:c1≠u2:=fun e=>by rw [e,hu2'] at fc1;cases fc1
    have q1u1:q1≠u1:=fun e=>by rw [e,hu1'] at fq1;cases fq1
    have q1u2:q1≠u2:=fun e=>by rw [e,hu2'] at fq1;cases fq1
    have hu1'':=s1314.at hu1';have hu2'':=s1314.at hu2';have hh14:=s1314.at hh13;have s1214:=s1213.trans s1314;clear b14 hc1' hq1' hx1 hdx1 s1314 s1213 hu1' hu2' hh13;obtain ⟨o1,fc1',fw1,fn1,qc1,qw1⟩:=M;walk_at "r";refine zda hu1'' (by lia) ?_;have o2:=zf (o:=.lst ((L++[0]).map V.int)) o1 x1u1;have qc2:=zf (o:=.lst ((L++[0]).map V.int)) qc1 c1u1;have qw2:=zf (o:=.lst ((L++[0]).map V.int)) qw1 q1u1;have hu23:=zf (o:=.lst ((L++[0]).map V.int)) hu2'' (Ne.symm u12);have hh15:=zf (o:=.lst ((L++[0]).map V.int)) hh14 (Ne.symm hu1h);have s1215:Same H12 (upd H14 u1 (.lst ((L++[0]).map V.int))):=by walk_at "s"
    generalize upd H14 u1 (.lst ((L++[0]).map V.int))=H15 at o2 qc2 qw2 hu23 hh15 s1215 ⊢;clear o1 qc1 qw1 hu1'' hu2'' hh14 s1214;walk_at "r";refine zda hu23 (by lia) ?_;have o3:=zf (o:=.lst ((W++[0]).map V.int)) o2 x1u2;have qc3:=zf (o:=.lst ((W++[0]).map V.int)) qc2 c1u2;have qw3:=zf (o:=.lst ((W++[0]).map V.int)) qw2 q1u2;have s1216:Same H12 (upd H15 u2 (.lst ((W++[0]).map V.int))):=by walk_at "s"
    generalize upd H15 u2 (.lst ((W++[0]).map V.int))=H16 at o3 qc3 qw3 s1216 ⊢;clear o2 qc2 qw2 hu23 hh15 s1215;have hd16:=s1216.at hd12;have he16:=s1216.at he12;have ha16:=s1216.at ha12;walk_at "r";intro w1 hw1;walk_at "r";intro w2 hw2;refine z4x (xs:=L) (ys:=W) (xs':=L) (ys':=W) (by walk_at "f") (by walk_at "f") (by walk_at "f") (by walk_at "f") (by walk_at "f") (by walk_at "f") ?_;generalize hH17:upd _ w2 (HO.lst [V.ref d,V.ref e])=H17;have s1617:Same H16 H17:=by rw [<- hH17];walk_at "s"
    clear hH17 hw1 hw2;have o4:=s1617.at o3;have qc4:=s1617.at qc3;have qw4:=s1617.at qw3;have ha17:=s1617.at ha16;have hd17:=s1617.at hd16;have he17:=s1617.at he16;have s1217:=s1216.trans s1617;clear s1216 s1617 o3 qc3 qw3 ha16 hd16 he16;walk_at "r";refine ⟨x1,dx1,fs1,c1,q1,L,W,a,row,kinds,rfl,⟨o4,fc1',fw1,fn1,qc4,qw4⟩,ha17,by lia,by lia,by lia,hk,fun H18 s18=>?_⟩;walk_at "r";refine ⟨a,d,e,row,L,W,kinds,rfl,s18.at ha17,s18.at hd17,s18.at he17,by lia,by lia,by lia,fun H19 s19=>?_⟩;walk_at "r";refine ⟨_,_,rfl,?_⟩;walk_at "r";exact ⟨_,_,_,rfl,s12.trans (s1217.trans (s18.trans s19))⟩
   ·rintro σ H12 ⟨v6,v7,v8,rfl,s12⟩;walk_at "r";exact ⟨_,_,_,_,rfl,s11.trans s12⟩
  ·rintro σ H11 ⟨v5,v6,v7,v8,rfl,s11⟩;walk_at "r";exact ⟨_,_,_,_,_,_,_,rfl,s110.trans s11⟩
 ·rintro σ H2 ⟨v2,v3,v4,v5,v6,v7,v8,rfl,s2⟩;walk_at "r";exact k _ (s1.trans s2)
noncomputable abbrev zbz:=bd 62
noncomputable abbrev zen:List Str:=["_law_row_here","_law_one","_law_other","_law_script","_law_found","_law_pairs","_law_odd","_law_some","_law_handed","_law_answer","_law_due","_law_places"]
noncomputable abbrev uc:List Str:=["_law_row_here","_law_one","_law_other","_law_script"]
theorem zd9:z7 zen uc (zq zbz):=by walk_at "a"
noncomputable def zrl (kM kU:Addr) (H:Hp) (x:Addr):Prop:=(∃ dx fs pl ps,zsf kM H x dx fs pl ps/\ps.length<=200)\/(∃ dx fs p ts ps,zsm kU H x dx fs p ts ps/\ps.length<=90000)
theorem zrl.same {kM kU:Addr}{H H':Hp}{x:Addr} (h:zrl kM kU H x) (s:Same H H'):zrl kM kU H' x:=by
 rcases h with ⟨dx,fs,pl,ps,M,l⟩|⟨dx,fs,p,ts,ps,M,l⟩
 ·exact .inl ⟨dx,fs,pl,ps,M.same s,l⟩
 ·exact .inr ⟨dx,fs,p,ts,ps,M.same s,l⟩
theorem zt6 {kM kU a b c:Addr}{row one other:List Int}{H:Hp}{Q:VK}{E:XK} (ha:H a=some (.lst (row.map V.int))) (hb:H b=some (.lst (one.map V.int))) (hc:H c=some (.lst (other.map V.int))) (l1:row.length<=200) (l2:one.length<=100) (l3:other.length<=100) (l4:row.length=one.length+other.length)
  (k:∀ x H',Same H H'->zrl kM kU H' x->Q (.ref x) H'):zqq kM kU ([.ref a,.ref b,.ref c]++[]) H Q E :=
 ⟨a,b,c,row,one,other,rfl,ha,hb,hc,l1,l2,l3,l4,fun x dx fs pl ps H' _ _ s M hm=>k x H' s (.inl ⟨dx,fs,pl,ps,M,by lia⟩),fun x dx fs p ts ps H' _ _ s M l=>k x H' s (.inr ⟨dx,fs,p,ts,ps,M,l⟩)⟩
noncomputable def zdo (K:PySem.W.Frag):Sp:=fun vs H Q _=>∃ (a b c e:Addr) (row one other ns:List Int),vs=[.ref a,.ref b,.ref c,.ref e]/\H a=some (.lst (row.map V.int))/\H b=some (.lst (one.map V.int))/\H c=some (.lst (other.map V.int))/\SqL K H e (ns.map V.int)/\row.length<=200/\one.length<=100/\other.length<=100/\row.length=one.length+other.length/\ns.length<=63/\∀ H',Same H H'->Q (.bl true) H'
theorem zjf (F:Fun K "_law_mixed_right" "_law_mixed_right" zbz f fd) (T:Blt mg)
  (z3f:Cal K mg "mixed" f1 fd1 zmy) (z30:qm P w K mg base CX0 8 f1 fd1 zmy (zqq yg qw))
  (uz:Cal K mg "_law_bent" f2 fd2 vp) (uw:qm P w K mg base CX0 1 f2 fd2 vp (zcu K))
  (yc:Cal K mg "_law_says" f3 fd3 jz) (xj:qm P w K mg base CX0 1 f3 fd3 jz za2)
  (zow:Cal K mg "_law_unmixed" f4 fd4 zbc) (zol:qm P w K mg base CX0 1 f4 fd4 zbc zhn)
  (zng:Cal K mg "_law_is_mixed" f5 fd5 za1) (znq:qm P w K mg base CX0 2 f5 fd5 za1 zgm)
  (u9:Met K yg "shows" f6 fd6 zaf) (zdi:qm P w K mg base CX0 8 f6 fd6 zaf (zeu yg))
  (qy:Met K qw "shows" f7 fd7 wg) (vz:qm P w K mg base CX0 8 f7 fd7 wg (zc7 qw))
  (zmt:Mak K mg "Mixed" yg f8 fd8 jy) (zal:qm P w K mg base CX0 1 f8 fd8 jy (zmm yg))
  (zcm:Mak K mg "Unmixed" qw f9 fd9 jg) (jt:qm P w K mg base CX0 1 f9 fd9 jg (zmn qw))
  (g_Mixed:mg "Mixed"=some (.ref yg))
  (g_Unmixed:mg "Unmixed"=some (.ref qw))
  (zlq:Ins K yg) (zbs:Ins K qw) (zis:jb K yg "places") (zhe:jb K qw "pairs")
  (zzx:PySem.W.kitOne K (.ref yg) (.ref yg)=some true)
  (zy8:PySem.W.kitOne K (.ref yg) (.ref qw)=some false)
  (zxq:PySem.W.kitOne K (.ref qw) (.ref yg)=some false)
  (zvj:PySem.W.kitOne K (.ref qw) (.ref qw)=some true)
  : qm P w K mg base CX0 9 f fd uc (zdo K):=by
 refine F.ok zd9 (fun vs H Q E h=>by obtain ⟨_,_,_,_,_,_,_,_,rfl,_⟩:=h;rfl) fun cdv A outer s H vs Q E hr h=>?_;obtain ⟨a,b,c,e,row,one,other,ns,rfl,ha,hb,hc,he,l1,l2,l3,hrl,l4,k⟩:=h;have nd:=zd9.nd;have hu:=hr.units;refine ⟨_,(za (sv 4 nd (fcl z30 hr z3f (a3 (pv 0) (pv 1) (pv 2))))
  (za (sv 5 nd (zqu (j5 (jk zbl rfl T.no_isinstance boot_isinstance (a2 (pv 4) (zxg rfl g_Unmixed)))) (qg (pv 4) rfl) (zr (a3 (yr (a2 zc zc)) (yr (a2 zc zc)) (yr (a2 zc zc))))))
  (za (zmv (N:=["_law_cell"]) (k:=1) (caps:=[]) (Block.of (by kernel_rfl)) rfl (qb (pv 3)) (fun _ _ _ _=>⟨_,(gv 0 (by show List.Nodup (["_law_cell"]:List Str);decide)),by walk_at "c"⟩) (fun _ _ _ _=>⟨_,zth.none,by walk_at "c"⟩) (fun _ _ _ _=>⟨_,(yr (a2 (z9 zak (z9 zcb (pv 0) zc) zc) (z9 zcb (z9 zjk (pv 0) zc) zc))),by walk_at "c"⟩) nd (i:=6) rfl rfl (by with_unfolding_all rfl))
  (za (vq PassesOwn.never rfl (qb (zr (zm (pv 5) (zm (zbt (pv 5) q9 q9 (zdh zao zc)) (zm (z9 z8 (pv 5) (ju yo (pv 5) q9 (j4 zc))) (zm (ju yo (pv 5) (j4 zc) q9) (zm (pv 6) (zm (z9 z8 (zr (a1 (yr (a2 zc zc)))) (pv 6)) (zm (z9 z8 (pv 5) (pv 6)) qu))))))))) (gv 7 nd) (za (sv 8 nd (lo T (pv 7)))
  (za (sv 9 nd (fmk zcm jt hr (a1 (pv 8))))
  (za (pap (pv 8) (yr (a2 zc zc)))
  (za (sv 10 nd (fcl zol hr zow (zm (pv 0) (zm (pv 1) (zm (pv 2) (zm (pv 7) qu))))))
  (zp (pif (PW.pt (zc6 (tc (za8 hu) (qg (pv 9) rfl) (pv 7)) (zbd (yj (j5 (fcl xj hr yc (a2 (z6a (yq (pv 9) zbs.cl qy.m vz (hr.mono (by decide)) qy.b .nil zb9 (a3 (pv 0) (pv 1) (pv 2))) (yq (pv 9) zlq.cl u9.m zdi (hr.mono (by decide)) u9.b .nil zb9 (a3 (pv 0) (pv 1) (pv 2)))) (pv 10)))))))))))))))
  (za (sv 11 nd (zqu (j5 (jk zbl rfl T.no_isinstance boot_isinstance (a2 (pv 4) (zxg rfl g_Mixed)))) (qg (pv 4) rfl) (zgc rfl rfl T.no_list rfl T.no_range (a1 (ln T (pv 1))))))
  (za (vq PassesOwn.never rfl (qb (zr (zm (pv 11) (zm (fcl uw hr uz (a2 (pv 11) (pv 3))) (zm (zbt (pv 11) q9 q9 (zdh zao zc)) (zm (zgc rfl rfl T.no_list rfl T.no_range (a1 (ln T (pv 1)))) qu)))))) (gv 7 nd) (za (sv 8 nd (lo T (pv 7)))
  (za (sv 9 nd (fmk zmt zal hr (a1 (pv 8))))
  (za (pap (pv 8) zc)
  (za (sv 10 nd (fcl znq hr zng (zm (pv 0) (zm (pv 1) (zm (pv 2) (zm (pv 7) qu))))))
  (zp (pif (PW.pt (zc6 (tc (za8 hu) (qg (pv 9) rfl) (pv 7)) (zbd (yj (j5 (fcl xj hr yc (a2 (z6a (yq (pv 9) zbs.cl qy.m vz (hr.mono (by decide)) qy.b .nil zb9 (a3 (pv 0) (pv 1) (pv 2))) (yq (pv 9) zlq.cl u9.m zdi (hr.mono (by decide)) u9.b .nil zb9 (a3 (pv 0) (pv 1) (pv 2)))) (pv 10)))))))))))))))
  (zp (qx zf5)))))))),?_⟩
 try simp only [ck1,ck2]
 rw [show L2.start zen [V.ref a,V.ref b,V.ref c,V.ref e]=[some (V.ref a),some (V.ref b),some (V.ref c),some (V.ref e),none,none,none,none,none,none,none,none] from rfl];walk_at "r";refine zt6 ha hb hc l1 l2 l3 hrl fun x H1 s1 F1=>?_;walk_at "r";refine zbg (fun v H'=>∃ (p:Addr) (ts:List Addr) (ps:List (Int×Int)),v=.ref p/\Same H1 H'/\Prs H' p ts ps/\ps.length<=90000) (fun Q' k'=>?_) ?_
 ·refine z3n ?_;rcases F1 with ⟨dx,fs,pl,ps,M,lp⟩|⟨dx,fs,p,ts,ps,M,lp⟩
  ·have ob:=M.ob;walk_at "r";intro t1 ht1;walk_at "r";intro t2 ht2;walk_at "r";intro t3 ht3;walk_at "r";intro g hg;refine k' _ _ ⟨g,[t1,t2,t3],[(0,0),(1,0),(0,1)],rfl,by walk_at "s",?_,by simp⟩;exact (PrA.cons (by walk_at "f") (PrA.cons (by walk_at "f") (PrA.cons (by walk_at "f") PrA.nil))).prs (by walk_at "f")
  ·have ob:=M.ob;have fp:=M.fp;walk_at "r";exact k' _ _ ⟨p,ts,ps,rfl,Same.refl _,M.pr,lp⟩
 rintro v H2 ⟨p,ts,ps,rfl,s12,P2,lp⟩;have he2:=s12.seq (s1.seq he);walk_at "r";refine zdf (wz (ns:=ns)) (fun z=>.tup [.int (z%5-1),.int (z/5%5)]) (fun H' s'=>s'.seq he2) (by lia) ?_ ?_
 ·rintro i z x' H3 H4 R R' hi s3 ⟨rfl,rfl⟩ h1;walk_at "r";refine ⟨⟨rfl,rfl⟩,?_⟩;walk_at "r";intro t ht;exact h1 t _ (Same.upd_new ht) ht zb
 intro D3 H3 ts3 hD3 s23 hd3 len3 nd3 nD3 fr3 at3;have A3:PrA H3 ts3 (ns.map fun z=>(z%5-1,z/5%5)):=by
  refine ⟨by rw [List.length_map];exact len3,fun i t ht=>?_⟩;obtain ⟨y,hy,q⟩:=at3 i t ht;rw [q,List.getD_eq_getElem?_getD,List.getElem?_map,hy];rfl
 have l5:(ns.map fun z=>(z%5-1,z/5%5)).length<=63:=by rw [List.length_map];exact l4
 generalize (ns.map fun z=>(z%5-1,z/5%5))=odd at A3 l5;have P3:=P2.same s23;have pa:=P3.at_;have s13:=s12.trans s23;clear s12 s23 P2 he2 hD3 len3 nd3 nD3 fr3 at3;walk_at "r";refine z5g pa ?_;intro v1 hv1;walk_at "r";refine zt2 (by walk_at "f") (by decide) ?_;intro v2 hv2;refine zhw (by walk_at "f") (by walk_at "f") (by simp;have:=P3.len;lia) ?_;intro v3 hv3;walk_at "r";refine zrr (by walk_at "f") (by decide) ?_;intro v4 hv4;walk_at "r";intro t0 ht0;walk_at "r";intro v5 hv5;walk_at "r";refine zhw (by walk_at "f") (by walk_at "f") (by simp;have:=A3.1;lia) ?_;intro v6 hv6;walk_at "r";refine zhw (by walk_at "f") (by walk_at "f") (by simp;have:=A3.1;have:=P3.len;lia) ?_;intro v7 hv7;walk_at "r";intro g hg;generalize hH4:upd _ g (HO.lst [V.ref p,V.ref v1,V.ref v3,V.ref v4,V.ref D3,V.ref v6,V.ref v7])=H4;have s34:Same H3 H4:=by rw [<- hH4];walk_at "s"
 have hg4:H4 g=some (.lst [V.ref p,V.ref v1,V.ref v3,V.ref v4,V.ref D3,V.ref v6,V.ref v7]):=by rw [<- hH4];walk_at "f"
 have P4:=P3.a.same s34;have A4:=A3.same s34;have t04:H4 t0=some (.tup [.int 0,.int 0]):=by rw [<- hH4];walk_at "f"
 have all4:∀ v∈[V.ref p,V.ref v1,V.ref v3,V.ref v4,V.ref D3,V.ref v6,V.ref v7],∃ (d:Addr) (us:List Addr) (qs:List (Int×Int)),v=.ref d/\Prs H4 d us qs/\qs.length<=95000:=by
  intro v hv;simp only [List.mem_cons,List.mem_nil_iff,or_false] at hv;rcases hv with rfl|rfl|rfl|rfl|rfl|rfl|rfl
  ·exact ⟨p,ts,ps,rfl,P3.same s34,by lia⟩
  ·exact ⟨v1,_,_,rfl,P4.reverse.prs (by rw [<- hH4,List.map_reverse];walk_at "f"),by simp;lia⟩
  ·exact ⟨v3,_,_,rfl,(P4.append (P4.take 2)).prs (by rw [<- hH4,List.map_append,List.map_take];walk_at "f"),by simp;lia⟩
  ·exact ⟨v4,_,_,rfl,(P4.drop 1).prs (by rw [<- hH4,List.map_drop];walk_at "f"),by simp;lia⟩
  ·exact ⟨D3,_,_,rfl,A4.prs (s34.at hd3),by lia⟩
  ·exact ⟨v6,_,_,rfl,(PrA.cons t04 A4).prs (by rw [<- hH4];walk_at "f"),by simp;lia⟩
  ·exact ⟨v7,_,_,rfl,(P4.append A4).prs (by rw [<- hH4,List.map_append];walk_at "f"),by simp;lia⟩
 have s14:=s13.trans s34;have s04:=s1.trans s14;have F4:=F1.same s14;have ha4:=s04.at ha;have hb4:=s04.at hb;have hc4:=s04.at hc;have he4:=s04.seq he;clear hH4 hv1 hv2 hv3 hv4 hv5 hv6 hv7 ht0 hg s34 P4 A4 t04 P3 A3 pa hd3 F1 s13 s14 t0;walk_at "r";refine vf (zac (xs:=[V.ref p,V.ref v1,V.ref v3,V.ref v4,V.ref D3,V.ref v6,V.ref v7])) (fun i σ H5=>∃ v7 v8 v9 v10:Option V,σ=[some (.ref a),some (.ref b),some (.ref c),some (.ref e),some (.ref x),some (.ref p),some (.ref D3),v7,v8,v9,v10,none]/\Same H4 H5) ?_ ?_ ?_ ?_
 ·exact ⟨_,_,_,_,rfl,Same.refl _⟩
 ·rintro i σ H5 _ ⟨_,_,_,_,_,s5⟩;exact SqL.of (s5.at hg4)
 ·rintro i v y σ H5' H5 hy ⟨v7,v8,v9,v10,rfl,s5⟩ ⟨rfl,rfl⟩;obtain ⟨d,us,qs,rfl,hd,hL⟩:=all4 _ (List.mem_of_getElem? hy);have hd5:=hd.same s5;have hda:=hd5.at_;have ha5:=s5.at ha4;have hb5:=s5.at hb4;have hc5:=s5.at hc4;clear all4 hd;walk_at "r";refine z2a hda ?_;intro u hu';have s56:Same H5 (upd H5 u (.lst (us.map V.ref))):=Same.upd_new hu';have hu6:(upd H5 u (.lst (us.map V.ref))) u=some (.lst (us.map V.ref)):=zb;generalize upd H5 u (.lst (us.map V.ref))=H6 at s56 hu6 ⊢;have U6:=(hd5.a.same s56).prs hu6;walk_at "r";intro x1 dx1 hx1 hdx1 xd1;have U7:Prs (upd (upd H6 dx1 (.own x1)) x1 (.ins qw dx1 [])) u us qs:=⟨qe hx1 hdx1 U6.at_,U6.len,fun i t ht=>qe hx1 hdx1 (U6.row i t ht)⟩
  refine ⟨x1,dx1,u,us,qs,rfl,zb,U7,fun fs1 p1 H7 hp1 b7 M=>⟨rfl,?_⟩⟩;have s67:=jl hx1 hdx1 b7;have fp1:=zb7 hp1;have x1u:x1≠u:=fun e=>by rw [e,hu6] at hx1;cases hx1
  have p1u:p1≠u:=fun e=>by rw [e,hu6] at fp1;cases fp1
  have hu7:=s67.at hu6;have s57:=s56.trans s67;clear U7 b7 hp1 hx1 hdx1 s67 hu6 s56 fp1;walk_at "r";intro t0 ht0;have hu8:=zu (o:=.tup [.int 0,.int 0]) hu7 ht0;have M8:=M.same (Same.upd_new (o:=.tup [.int 0,.int 0]) ht0);have s58:=s57.trans (Same.upd_new (o:=.tup [.int 0,.int 0]) ht0);generalize upd H7 t0 (.tup [.int 0,.int 0])=H8 at hu8 M8 s58 ⊢;clear hu7 M s57 ht0;walk_at "r";refine zia hu8 (by have:=hd5.len;simp;lia) ?_;have s59:Same H5 (upd H8 u (.lst (us.map V.ref++[.ref t0]))):=by walk_at "s"
  obtain ⟨o8,f8,g8,r8⟩:=M8;have usu:∀ t∈us,t≠u:=fun t ht e=>by
   obtain ⟨i,j,z⟩:=r8.mem ht;rw [e,hu8] at z;cases z
  have M9:zsm qw (upd H8 u (.lst (us.map V.ref++[.ref t0]))) x1 dx1 fs1 p1 us qs:=⟨zf o8 x1u,f8,g8,r8.off p1u usu⟩
  generalize upd H8 u (.lst (us.map V.ref++[.ref t0]))=H9 at s59 M9 ⊢;clear s58 o8 r8 hu8 U6;have hd9:=hd5.same s59;have ha9:=s59.at ha5;have hb9:=s59.at hb5;have hc9:=s59.at hc5;walk_at "r";refine ⟨a,b,c,d,us,row,one,other,qs,rfl,ha9,hb9,hc9,hd9,by lia,fun H10 s10=>?_⟩;have M10:=M9.same s10;have hd10:=hd9.same s10;have o10:=M10.ob;have fp10:=M10.fp;walk_at "r";refine z3d M10.pr hd10 ?_;walk_at "r";refine ⟨x1,dx1,fs1,p1,us,qs,a,b,c,row,one,other,rfl,M10,s10.at ha9,s10.at hb9,s10.at hc9,by lia,by lia,by lia,by lia,fun H11 s11=>?_⟩;walk_at "r";refine ⟨_,_,rfl,?_⟩;walk_at "r";exact ⟨_,_,_,_,rfl,s5.trans (s59.trans (s10.trans s11))⟩
 rintro σ H5 ⟨v7,v8,v9,v10,rfl,s5⟩;have F5:=F4.same s5;have ha5:=s5.at ha4;have hb5:=s5.at hb4;have hc5:=s5.at hc4;have he5:=s5.seq he4;have s05:=s04.trans s5;clear all4 hg4 F4 ha4 hb4 hc4 he4 s04 s5;walk_at "r";refine zbg (fun v H'=>∃ (pl:Addr) (qs:List Int),v=.ref pl/\Same H5 H'/\H' pl=some (.lst (qs.map V.int))/\qs.length<=200) (fun Q' k'=>?_) ?_
 ·refine z3n ?_;rcases F5 with ⟨dx,fs,pl,ps,M,lp⟩|⟨dx,fs,p,ts,ps,M,lp⟩
  ·have ob:=M.ob;have fp:=M.fp;walk_at "r";exact k' _ _ ⟨pl,ps,rfl,Same.refl _,M.hp,lp⟩
  ·have ob:=M.ob;walk_at "r";refine z4b (by lia) ?_;intro q hq;exact k' _ _ ⟨q,_,rfl,Same.upd_new hq,zb,by simp;lia⟩
 rintro v H6 ⟨pl,ps',rfl,s56,hpl,lpl⟩;have he6:=s56.seq he5;have hb6:=s56.at hb5;walk_at "r";refine ⟨pl,e,ps',ns,rfl,hpl,he6,by lia,l4,fun p7 ys H7 hp7 s67 h7 ly=>?_⟩;have hpl7:=s67.at hpl;have hb7:=s67.at hb6;have s57:=s56.trans s67;walk_at "r";intro w1 hw1;walk_at "r";refine z4b (by lia) ?_;intro w2 hw2;walk_at "r";intro g2 hg2;generalize hH8:upd _ g2 (HO.lst [V.ref pl,V.ref p7,V.ref w1,V.ref w2])=H8;have s78:Same H7 H8:=by rw [<- hH8];walk_at "s"
 have hg8:H8 g2=some (.lst [V.ref pl,V.ref p7,V.ref w1,V.ref w2]):=by rw [<- hH8];walk_at "f"
 have all8:∀ v∈[V.ref pl,V.ref p7,V.ref w1,V.ref w2],∃ (d:Addr) (L:List Int),v=.ref d/\H8 d=some (.lst (L.map V.int))/\L.length<=400:=by
  intro v hv;simp only [List.mem_cons,List.mem_nil_iff,or_false] at hv;rcases hv with rfl|rfl|rfl|rfl
  ·exact ⟨pl,ps',rfl,s78.at hpl7,by lia⟩
  ·exact ⟨p7,ys,rfl,s78.at h7,by lia⟩
  ·exact ⟨w1,_,rfl,by rw [<- hH8];walk_at "f",by simp;lia⟩
  ·exact ⟨w2,_,rfl,by rw [<- hH8];walk_at "f",by simp;lia⟩
 have s58:=s57.trans s78;have s08:=s05.trans s58;have ha8:=s58.at ha5;have hb8:=s58.at hb5;have hc8:=s58.at hc5;clear hH8 hw1 hw2 hg2 s78 hpl7 h7 s67 s56 s57 hp7 hpl he6 hb6 hb7;walk_at "r";refine vf (zac (xs:=[V.ref pl,V.ref p7,V.ref w1,V.ref w2])) (fun i σ H9=>∃ v7 v8 v9 v10:Option V,σ=[some (.ref a),some (.ref b),some (.ref c),some (.ref e),some (.ref x),some (.ref p),some (.ref D3),v7,v8,v9,v10,some (.ref pl)]/\Same H8 H9) ?_ ?_ ?_ ?_
 ·exact ⟨_,_,_,_,rfl,Same.refl _⟩
 ·rintro i σ H9 _ ⟨_,_,_,_,_,s9⟩;exact SqL.of (s9.at hg8)
 ·rintro i v y σ H9' H9 hy ⟨v7,v8,v9,v10,rfl,s9⟩ ⟨rfl,rfl⟩;obtain ⟨d,L,rfl,hd,hL⟩:=all8 _ (List.mem_of_getElem? hy);have hd9:=s9.at hd;have ha9:=s9.at ha8;have hb9:=s9.at hb8;have hc9:=s9.at hc8;clear all8 hd;walk_at "r";intro u hu';have s910:Same H9 (upd H9 u (.lst (L.map V.int))):=Same.upd_new hu';have hu10:(upd H9 u (.lst (L.map V.int))) u=some (.lst (L.map V.int)):=zb;generalize upd H9 u (.lst (L.map V.int))=H10 at s910 hu10 ⊢;walk_at "r";intro x1 dx1 hx1 hdx1 xd1;refine ⟨x1,dx1,u,L,rfl,zb,qe hx1 hdx1 hu10,fun fs1 p1 H11 hp1 b11 M=>⟨rfl,?_⟩⟩;have s1011:=jl hx1 hdx1 b11;have fp1:=zb7 hp1;have x1u:x1≠u:=fun e=>by rw [e,hu10] at hx1;cases hx1
  have p1u:p1≠u:=fun e=>by rw [e,hu10] at fp1;cases fp1
  have hu11:=s1011.at hu10;have s911:=s910.trans s1011;clear b11 hp1 hx1 hdx1 s1011 hu10 s910 fp1;walk_at "r";refine zda hu11 (by lia) ?_;have s912:Same H9 (upd H11 u (.lst ((L++[0]).map V.int))):=by walk_at "s"
  obtain ⟨o11,f11,g11,r11⟩:=M;have M12:zsf yg (upd H11 u (.lst ((L++[0]).map V.int))) x1 dx1 fs1 p1 L:=⟨zf o11 x1u,f11,g11,zf r11 p1u⟩
  generalize upd H11 u (.lst ((L++[0]).map V.int))=H12 at s912 M12 ⊢;clear s911 o11 r11 hu11;have hd12:=s912.at hd9;have ha12:=s912.at ha9;have hb12:=s912.at hb9;have hc12:=s912.at hc9;walk_at "r";refine ⟨a,b,c,d,row,one,other,L,rfl,ha12,hb12,hc12,hd12,by lia,fun H13 s13=>?_⟩;have M13:=M12.same s13;have hd13:=s13.at hd12;have o13:=M13.ob;have fp13:=M13.fp;have q13:=M13.hp;walk_at "r";refine ⟨x1,dx1,fs1,p1,L,a,b,c,row,one,other,rfl,M13,s13.at ha12,s13.at hb12,s13.at hc12,by lia,by lia,by lia,by lia,fun H14 s14=>?_⟩;walk_at "r";refine ⟨_,_,rfl,?_⟩;walk_at "r";exact ⟨_,_,_,_,rfl,s9.trans (s912.trans (s13.trans s14))⟩
 ·rintro σ H9 ⟨v7,v8,v9,v10,rfl,s9⟩;walk_at "r";exact k _ (s08.trans s9)
noncomputable abbrev zcf:=bd 59
noncomputable abbrev zfh:List Str:=["_law_one","_law_other","_law_both","_law_table_here","_law_row_here","_law_second","_law_mine","_law_theirs","_law_handed","_law_answer","_law_line","_law_due"]
noncomputable abbrev ur:List Str:=["_law_one","_law_other","_law_both","_law_table_here"]
theorem zef:z7 zfh ur (zq zcf):=by walk_at "a"
theorem ziq.but {C:Addr}{H H':Hp}{x dx:Addr}{fs:List (Str×V)}{r m q t:Addr}{ls us:List Addr}{row mine theirs:List Int}{tb:List (List Int)} (L:ziq C H x dx fs r m q t ls row mine theirs tb) (s:SameBut us H H') (h0:x∉us) (h1:r∉us) (h2:m∉us) (h3:q∉us) (h4:t∉us) (h5:∀ l∈ls,l∉us):ziq C H' x dx fs r m q t ls row mine theirs tb :=
 ⟨s.at L.ob h0,L.fr,L.fm,L.fq,L.fb,L.fn,s.at L.hr h1,s.at L.hm h2,s.at L.hq h3,L.tab.but s h4 h5⟩
noncomputable def zeg (C:Addr):Sp:=fun vs H Q _=>∃ (a b x t:Addr) (dx:Addr) (fs:List (Str×V)) (r m q t0:Addr) (ls0 ls:List Addr) (one other row mine theirs:List Int) (tb0 tb:List (List Int)),vs=[.ref a,.ref b,.ref x,.ref t]/\H a=some (.lst (one.map V.int))/\H b=some (.lst (other.map V.int))/\ziq C H x dx fs r m q t0 ls0 row mine theirs tb0/\Tab H t ls tb /\
 one.length<=100/\other.length<=100/\row.length<=300/\mine.length<=300/\theirs.length<=300/\tb.length<=500/\(∀ i,i<tb.length->(tb.getD i []).length<=500)/\∀ H',Same H H'->Q (.bl true) H'
theorem zkr (F:Fun K "_law_rows_right" "_law_rows_right" zcf f fd) (T:Blt mg)
  (yc:Cal K mg "_law_says" f1 fd1 jz) (xj:qm P w K mg base CX0 1 f1 fd1 jz za2)
  (xg:Cal K mg "_law_stands" f2 fd2 jn) (xu:qm P w K mg base CX0 1 f2 fd2 jn (zam K))
  (zhv:Cal K mg "_law_table" f3 fd3 za0) (zgx:qm P w K mg base CX0 1 f3 fd3 za0 zf9)
  (zl3:Met K jm "shows" f4 fd4 zcl) (zsy:qm P w K mg base CX0 8 f4 fd4 zcl (zj5 jm))
  (zwu:Mak K mg "Both" jm f5 fd5 vy) (zdr:qm P w K mg base CX0 1 f5 fd5 vy (zqh jm))
  (zxu:Ins K jm) (zpt:jb K jm "row") (zns:jb K jm "mine") (zkz:jb K jm "theirs") (zlv:jb K jm "table")
  : qm P w K mg base CX0 9 f fd ur (zeg jm):=by
 refine F.ok zef (fun vs H Q E h=>by obtain ⟨_,_,_,_,_,_,_,_,_,_,_,_,_,_,_,_,_,_,_,rfl,_⟩:=h;rfl) fun cdv A outer s H vs Q E hr h=>?_;obtain ⟨a,b,x,t,dx,fs,r,m,q,t0,ls0,ls,one,other,row,mine,theirs,tb0,tb,rfl,ha,hb,B,hT,n1,n2,n3,n4,n5,n6,n7,k⟩:=h;have nd:=zef.nd;have hu:=hr.units;have ob:=B.ob;have f_r:=B.fr;have f_m:=B.fm;have f_q:=B.fq;have hr0:=B.hr;have hm0:=B.hm;have hq0:=B.hq;refine ⟨_,(za (vq PassesOwn.never rfl (qb (zr (a3 (qg (pv 2) rfl) (z9 z8 (pv 0) (pv 1)) (ju yo (qg (pv 2) rfl) q9 (j4 (zdh zao zc)))))) (gv 4 nd) (za (sv 5 nd (zq5 rfl rfl T.no_list rfl T.no_range (a2 (ln T (pv 0)) (z9 z8 (ln T (pv 0)) (ln T (pv 1))))))
  (zp (vq PassesOwn.never rfl (qb (zr (a2 (yr (a2 (qg (pv 2) rfl) (qg (pv 2) rfl))) (yr (a2 (zgc rfl rfl T.no_list rfl T.no_range (a1 (ln T (pv 0)))) (pv 5)))))) (zel (n:=2) rfl (jj (gv 6 nd) (jj (gv 7 nd) zb2))) (za (sv 8 nd (zr (zm (lo T (pv 4)) (zm (lo T (pv 6)) (zm (lo T (pv 7)) (zm (pcm (N:=["_law_line"]) (caps:=[]) (qb (pv 3)) (fun _ _ _ _=>⟨_,(lo T (pv 0)),by walk_at "c"⟩)) qu))))))
  (za (sv 9 nd (fmk zwu zdr hr (zm (px (pv 8) zc) (zm (px (pv 8) zc) (zm (px (pv 8) zc) (zm (px (pv 8) zc) qu))))))
  (za (vq PassesOwn.never rfl (qb (z9 z8 (ju yo (pv 8) q9 (j4 zc)) (px (pv 8) zc))) (gv 10 nd) (zp (pap (pv 10) zc)))
  (za (pif (tc (za8 hu) (zr (zm (qg (pv 9) rfl) (zm (qg (pv 9) rfl) (zm (qg (pv 9) rfl) (zm (qg (pv 9) rfl) qu))))) (zr (zm (pv 4) (zm (pv 6) (zm (pv 7) (zm (pv 3) qu)))))))
  (za (sv 11 nd (zcv (fcl xu hr xg (a3 (pv 4) (pv 6) (pv 0))) (zcv (fcl xu hr xg (a3 (pv 4) (pv 7) (pv 1))) (zd3 (fcl zgx hr zhv (a3 (pv 0) (pv 1) (pv 3)))))))
  (za (sv 11 nd (zcv (pv 11) (zd3 (ec (yp hu) (z9 z8 (ln T (pv 4)) (px (px (pv 3) (zdh zao zc)) (zdh zao zc))) (z9 z8 (ln T (pv 0)) (ln T (pv 1)))))))
  (zp (pif (yj (j5 (fcl xj hr yc (a2 (yq (pv 9) zxu.cl zl3.m zsy (hr.mono (by decide)) zl3.b .nil zb9 (a2 (pv 0) (pv 1))) (pv 11)))))))))))))))))
  (zp (qx zf5))),?_⟩
 try simp only [ck1,ck2]
 rw [show L2.start zfh [V.ref a,V.ref b,V.ref x,V.ref t]=[some (V.ref a),some (V.ref b),some (V.ref x),some (V.ref t),none,none,none,none,none,none,none,none] from rfl];walk_at "r";refine zi1 ha hb (by lia) ?_;intro v1 hv1;walk_at "r";intro v2 hv2;walk_at "r";intro g hg;generalize hH1:upd _ g (HO.lst [V.ref r,V.ref v1,V.ref v2])=H1;have s1:Same H H1:=by rw [<- hH1];walk_at "s"
 have hg1:H1 g=some (.lst [V.ref r,V.ref v1,V.ref v2]):=by rw [<- hH1];walk_at "f"
 have all1:∀ v∈[V.ref r,V.ref v1,V.ref v2],∃ (d:Addr) (L:List Int),v=.ref d/\H1 d=some (.lst (L.map V.int))/\L.length<=400:=by
  intro v hv;simp only [List.mem_cons,List.mem_nil_iff,or_false] at hv;rcases hv with rfl|rfl|rfl
  ·exact ⟨r,row,rfl,s1.at hr0,by lia⟩
  ·exact ⟨v1,one++other,rfl,by rw [<- hH1];walk_at "f",by simp;lia⟩
  ·exact ⟨v2,_,rfl,by rw [<- hH1];walk_at "f",by simp;lia⟩
 clear hH1 hv1 hv2 hg;walk_at "r";refine vf (zac (xs:=[V.ref r,V.ref v1,V.ref v2])) (fun i σ H2=>∃ v4 v5 v6 v7 v8 v9 v10 v11:Option V,σ=[some (.ref a),some (.ref b),some (.ref x),some (.ref t),v4,v5,v6,v7,v8,v9,v10,v11]/\Same H1 H2) ?_ ?_ ?_ ?_
 ·exact ⟨_,_,_,_,_,_,_,_,rfl,Same.refl _⟩
 ·rintro i σ H2 _ ⟨_,_,_,_,_,_,_,_,_,s2⟩;exact SqL.of (s2.at hg1)
 ·rintro i v y σ H2' H2 hy ⟨v4,v5,v6,v7,v8,v9,v10,v11,rfl,s2⟩ ⟨rfl,rfl⟩;obtain ⟨d,R,rfl,hd,hR⟩:=all1 _ (List.mem_of_getElem? hy);have s02:=s1.trans s2;have hd2:=s2.at hd;have ha2:=s02.at ha;have hb2:=s02.at hb;have T2:=hT.same s02;have ob2:=s02.at ob;have hm2:=s02.at hm0;have hq2:=s02.at hq0;clear all1 hd s02;walk_at "r";refine z8x (by lia) (by lia) ?_;intro w1 hw1;have hw3:(upd H2 w1 (.lst (((List.range other.length).map fun k:Nat=>(one.length:Int)+(k:Int)).map V.int))) w1=some (.lst (((List.range other.length).map fun k:Nat=>(one.length:Int)+(k:Int)).map V.int)):=zb;have s23:Same H2 (upd H2 w1 (.lst (((List.range other.length).map fun k:Nat=>(one.length:Int)+(k:Int)).map V.int))):=Same.upd_new hw1;have lw1:((List.range other.length).map fun k:Nat=>(one.length:Int)+(k:Int)).length<=100:=by simp;lia
  generalize ((List.range other.length).map fun k:Nat=>(one.length:Int)+(k:Int))=second at hw3 s23 lw1 ⊢;generalize upd H2 w1 (.lst (second.map V.int))=H3 at hw3 s23 ⊢;have ob3:=s23.at ob2;have ha3:=s23.at ha2;have hm3:=s23.at hm2;have hq3:=s23.at hq2;walk_at "r";intro t1 ht1;walk_at "r";refine z4b (by lia) ?_;intro w2 hw2;walk_at "r";intro t2 ht2;walk_at "r";intro g2 hg2;generalize hH4:upd _ g2 (HO.lst [V.ref t1,V.ref t2])=H4;have s34:Same H3 H4:=by rw [<- hH4];walk_at "s"
  have hg4:H4 g2=some (.lst [V.ref t1,V.ref t2]):=by rw [<- hH4];walk_at "f"
  have all4:∀ v∈[V.ref t1,V.ref t2],∃ (tt p1 p2:Addr) (L1 L2:List Int),v=.ref tt/\H4 tt=some (.tup [.ref p1,.ref p2])/\H4 p1=some (.lst (L1.map V.int))/\H4 p2=some (.lst (L2.map V.int))/\L1.length<=400/\L2.length<=400:=by
   intro v hv;simp only [List.mem_cons,List.mem_nil_iff,or_false] at hv;rcases hv with rfl|rfl
   ·exact ⟨t1,m,q,mine,theirs,rfl,by rw [<- hH4];walk_at "f",s34.at hm3,s34.at hq3,by lia,by lia⟩
   ·exact ⟨t2,w2,w1,_,second,rfl,by rw [<- hH4];walk_at "f",by rw [<- hH4];walk_at "f",s34.at hw3,by simp;lia,by lia⟩
  clear hH4 ht1 hw2 ht2 hg2;have s24:=s23.trans s34;have ha4:=s24.at ha2;have hb4:=s24.at hb2;have hd4:=s24.at hd2;have T4:=T2.same s24;clear ob3 ha3 hm3 hq3 hw3 s23 s34 ha2 hb2 hd2 T2 ob2 hm2 hq2 hw1;walk_at "r";refine vf (zac (xs:=[V.ref t1,V.ref t2])) (fun i σ H5=>∃ v6 v7 v8 v9 v10 v11:Option V,σ=[some (.ref a),some (.ref b),some (.ref x),some (.ref t),some (.ref d),some (.ref w1),v6,v7,v8,v9,v10,v11]/\Same H4 H5) ?_ ?_ ?_ ?_
  ·exact ⟨_,_,_,_,_,_,rfl,Same.refl _⟩
  ·rintro i σ H5 _ ⟨_,_,_,_,_,_,_,s5⟩;exact SqL.of (s5.at hg4)
  ·rintro i v y σ H5' H5 hy ⟨v6,v7,v8,v9,v10,v11,rfl,s5⟩ ⟨rfl,rfl⟩;obtain ⟨tt,p1,p2,L1,L2,rfl,htt,hp1,hp2,hL1,hL2⟩:=all4 _ (List.mem_of_getElem? hy);have htt5:=s5.at htt;have hp15:=s5.at hp1;have hp25:=s5.at hp2;have ha5:=s5.at ha4;have hb5:=s5.at hb4;have hd5:=s5.at hd4;have T5:=T4.same s5;have Tt5:=T5.at_;clear all4 htt hp1 hp2;walk_at "r";intro u1 hu1;walk_at "r";intro u2 hu2;walk_at "r";intro u3 hu3;generalize hH6:upd _ u3 (HO.lst (L2.map V.int))=H6;have s56:Same H5 H6:=by rw [<- hH6];walk_at "s"
   have hu16:H6 u1=some (.lst (R.map V.int)):=by rw [<- hH6];walk_at "f"
   have hu26:H6 u2=some (.lst (L1.map V.int)):=by rw [<- hH6];walk_at "f"
   have hu36:H6 u3=some (.lst (L2.map V.int)):=by rw [<- hH6];walk_at "f"
   have fu1:H5 u1=none:=hu1;have fu2:H5 u2=none:=zy hu2;have fu3:H5 u3=none:=zy (zy hu3);clear hH6 hu1 hu2 hu3;have T6:=T5.same s56;have Tt6:=T6.at_;have lz:=T6.len;walk_at "r";refine zdf (zfx lz) (fun y=>.lst (y.2.map V.int)) (fun H' s'=>T6.same s') (by rw [List.length_zip];lia) ?_ ?_
   ·rintro i ⟨l,line⟩ x' H7 H8 R0 R' hi s7 ⟨rfl,rfl,hl⟩ h7;walk_at "r";refine ⟨⟨rfl,rfl⟩,?_⟩;walk_at "r";intro p hp;exact h7 p _ (Same.upd_new hp) hp zb
   intro D7 H7 us hD7 s67 hd7 ll nd' nD fr at';have T7:Tab H7 D7 us tb:=Tab.of_copy lz hd7 ll at';walk_at "r";intro hh hhh;have s78:Same H7 (upd H7 hh (.lst [.ref u1,.ref u2,.ref u3,.ref D7])):=Same.upd_new hhh;have hh8:(upd H7 hh (.lst [.ref u1,.ref u2,.ref u3,.ref D7])) hh=some (.lst [.ref u1,.ref u2,.ref u3,.ref D7]):=zb;generalize upd H7 hh (.lst [.ref u1,.ref u2,.ref u3,.ref D7])=H8 at s78 hh8 ⊢;have s68:=s67.trans s78;have hu18:=s68.at hu16;have hu28:=s68.at hu26;have hu38:=s68.at hu36;have T8:=T7.same s78;have fus:∀ l∈us,H5 l=none:=fun l hl=>s56.free (fr l hl);have s58:=s56.trans s68;clear s67 s78 s68 hhh hu16 hu26 hu36 T7 hd7 at' fr s56 T6 Tt6;walk_at "r";intro x1 dx1 hx1 hdx1 xd1;have T9:Tab (upd (upd H8 dx1 (.own x1)) x1 (.ins jm dx1 [])) D7 us tb:=⟨qe hx1 hdx1 T8.at_,T8.len,fun i l hl=>qe hx1 hdx1 (T8.row i l hl)⟩
   refine ⟨x1,dx1,u1,u2,u3,D7,us,R,L1,L2,tb,rfl,zb,qe hx1 hdx1 hu18,qe hx1 hdx1 hu28,qe hx1 hdx1 hu38,T9,by lia,fun fs1 r1 m1 q1 tb1 ls1 H9 fr1 fm1 fq1 ft1 fl1 Ap b9 M=>⟨rfl,?_⟩⟩;have s89:=jl hx1 hdx1 b9;have lines8:∀ l∈u1::u2::u3::us,∃ xs:List V,H8 l=some (.lst xs)/\xs.length<=500:=fun l hl=>by
    simp only [List.mem_cons] at hl;rcases hl with rfl|rfl|rfl|hl
    ·exact ⟨_,hu18,by simp;lia⟩
    ·exact ⟨_,hu28,by simp;lia⟩
    ·exact ⟨_,hu38,by simp;lia⟩
    ·obtain ⟨i,hi⟩:=List.getElem?_of_mem hl;refine ⟨_,T8.row i l hi,?_⟩;rw [List.length_map];refine n7 i ?_;have:=(List.getElem?_eq_some_iff.mp hi).1;rw [T8.len] at this;exact this
   have out:∀ z,(upd (upd H8 dx1 (.own x1)) x1 (.ins jm dx1 [])) z=none->z∉u1::u2::u3::us:=fun z hz hl=>by
    obtain ⟨xs,e,_⟩:=lines8 z hl;rw [zb7 hz] at e;cases e
   have x1o:x1∉u1::u2::u3::us:=fun hl=>by
    obtain ⟨xs,e,_⟩:=lines8 x1 hl;rw [hx1] at e;cases e
   have r1o:=out r1 fr1;have m1o:=out m1 fm1;have q1o:=out q1 fq1;have t1o:=out tb1 ft1;have l1o:∀ l∈ls1,l∉u1::u2::u3::us:=fun l hl=>out l (fl1 l hl);have flines:∀ l∈u1::u2::u3::us,H5 l=none:=fun l hl=>by
    simp only [List.mem_cons] at hl;rcases hl with rfl|rfl|rfl|hl
    ·exact fu1
    ·exact fu2
    ·exact fu3
    ·exact fus l hl
   have hh9:=s89.at hh8;have hD9:=s89.at T8.at_;have s59:=s58.trans s89;have lines9:∀ l∈u1::u2::u3::us,∃ xs:List V,H9 l=some (.lst xs)/\xs.length<=500:=fun l hl=>by
    obtain ⟨xs,e,z⟩:=lines8 l hl;exact ⟨xs,s89.at e,z⟩
   have lus:us.length<=500:=by rw [T8.len];exact n6
   clear out lines8 fr1 fm1 fq1 ft1 fl1 b9 hx1 hdx1 T9 T8 hu18 hu28 hu38 s89 s58 hh8 fu1 fu2 fu3 fus;walk_at "r";refine zt2 hh9 (by decide) ?_;intro y1 hy1;walk_at "r";refine zhw zb (zu hD9 hy1) (by simp;lia) ?_;intro g3 hg3;have s910:Same H9 (upd (upd H9 y1 (.lst ([V.ref u1,V.ref u2,V.ref u3,V.ref D7].take (3:Int).toNat))) g3 (.lst ([V.ref u1,V.ref u2,V.ref u3,V.ref D7].take (3:Int).toNat++us.map V.ref))):=(Same.upd_new hy1).trans (Same.upd_new hg3);have hg10:(upd (upd H9 y1 (.lst ([V.ref u1,V.ref u2,V.ref u3,V.ref D7].take (3:Int).toNat))) g3 (.lst ([V.ref u1,V.ref u2,V.ref u3,V.ref D7].take (3:Int).toNat++us.map V.ref))) g3=some (.lst ((u1::u2::u3::us).map V.ref)):=zb;generalize upd (upd H9 y1 (.lst ([V.ref u1,V.ref u2,V.ref u3,V.ref D7].take (3:Int).toNat))) g3 (.lst ([V.ref u1,V.ref u2,V.ref u3,V.ref D7].take (3:Int).toNat++us.map V.ref))=H10 at s910 hg10 ⊢;have M10:=M.same s910;have s510:=s59.trans s910;have lines10:∀ l∈u1::u2::u3::us,∃ xs:List V,H10 l=some (.lst xs)/\xs.length<=500:=fun l hl=>by
    obtain ⟨xs,e,z⟩:=lines9 l hl;exact ⟨xs,s910.at e,z⟩
   have g3o:g3∉u1::u2::u3::us:=fun hl=>by
    obtain ⟨xs,e,_⟩:=lines9 g3 hl;rw [zy hg3] at e;cases e
   have lsl:(u1::u2::u3::us).length<=600:=by simp;lia
   clear lines9 M s910 s59 hy1 hg3 hh9 hD9;generalize hlines:u1::u2::u3::us=lines at lines10 flines x1o r1o m1o q1o t1o l1o g3o hg10 lsl;walk_at "r";refine vf (zac (xs:=lines.map V.ref)) (fun i σ H11=>∃ v10:Option V,σ=[some (.ref a),some (.ref b),some (.ref x),some (.ref t),some (.ref d),some (.ref w1),some (.ref p1),some (.ref p2),some (.ref hh),some (.ref x1),v10,v11]/\SameBut lines H10 H11/\∀ l∈lines,∃ xs:List V,H11 l=some (.lst xs)/\xs.length<=500+i) ?_ ?_ ?_ ?_
   ·exact ⟨_,rfl,fun b o h _=>h,lines10⟩
   ·rintro i σ H11 _ ⟨_,_,b11,_⟩;exact SqL.of (b11.at hg10 g3o)
   ·rintro i v y σ H11' H11 hy ⟨v10,rfl,b11,l11⟩ ⟨rfl,rfl⟩;have hi:=(List.getElem?_eq_some_iff.mp hy).1;rw [List.length_map] at hi;rw [List.getElem?_map] at hy;obtain ⟨l,hl,rfl⟩:=Option.map_eq_some_iff.mp hy;have hl':=List.mem_of_getElem? hl;obtain ⟨xs,hxs,lxs⟩:=l11 l hl';walk_at "r";refine zia hxs (by lia) ?_;walk_at "r";refine ⟨_,rfl,b11.upd hl',fun z hz=>?_⟩;by_cases e:z=l
    ·subst e;exact ⟨_,zb,by simp;lia⟩
    ·obtain ⟨ys,h1,h2⟩:=l11 z hz;exact ⟨ys,zf h1 e,by lia⟩
   rintro σ H11 ⟨v10,rfl,b11,_⟩;have M11:=M10.but b11 x1o r1o m1o q1o t1o l1o;have s511:=zgb s510 b11 flines;have ha11:=s511.at ha5;have hb11:=s511.at hb5;have hd11:=s511.at hd5;have hp111:=s511.at hp15;have hp211:=s511.at hp25;have T11:=T5.same s511;have o11:=M11.ob;have e1:=M11.fr;have e2:=M11.fm;have e3:=M11.fq;have e4:=M11.fb;clear M10 b11 s510 lines10 flines x1o r1o m1o q1o t1o l1o g3o hg10 hlines;walk_at "r";intro z1 hz1;walk_at "r";intro z2 hz2;have s1112:Same H11 (upd (upd H11 z1 (.lst [.ref r1,.ref m1,.ref q1,.ref tb1])) z2 (.lst [.ref d,.ref p1,.ref p2,.ref t])):=(Same.upd_new hz1).trans (Same.upd_new hz2);have hz12:(upd (upd H11 z1 (.lst [.ref r1,.ref m1,.ref q1,.ref tb1])) z2 (.lst [.ref d,.ref p1,.ref p2,.ref t])) z1=some (.lst [.ref r1,.ref m1,.ref q1,.ref tb1]):=zu zb hz2;have hz22:(upd (upd H11 z1 (.lst [.ref r1,.ref m1,.ref q1,.ref tb1])) z2 (.lst [.ref d,.ref p1,.ref p2,.ref t])) z2=some (.lst [.ref d,.ref p1,.ref p2,.ref t]):=zb;generalize upd (upd H11 z1 (.lst [.ref r1,.ref m1,.ref q1,.ref tb1])) z2 (.lst [.ref d,.ref p1,.ref p2,.ref t])=H12 at s1112 hz12 hz22 ⊢;have M12:=M11.same s1112;have s512:=s511.trans s1112;have T12:=T11.same s1112;refine z6y hz12 M12.hr M12.hm M12.hq M12.tab hz22 (s1112.at hd11) (s1112.at hp111) (s1112.at hp211) T12 ?_;have ha12:=s1112.at ha11;have hb12:=s1112.at hb11;have hd12:=s1112.at hd11;have hp112:=s1112.at hp111;have hp212:=s1112.at hp211;have o12:=M12.ob;clear hz1 hz2 hz12 hz22 M11 s511 s1112 ha11 hb11 hd11 hp111 hp211 T11 o11;repeat ((fail_if_success (with_reducible show z00 _ _ _ _ _));walk_at "q")
   refine zbg (fun v H'=>v=.bl (Lf.stands R L1 one&&Lf.stands R L2 other&&Lf.tab one other tb)/\Same H12 H') (fun Q' k'=>?_) ?_
   ·walk_at "r";refine ⟨d,p1,a,R,L1,one,rfl,SqL.of hd12,SqL.of hp112,SqL.of ha12,fun H13 s13=>?_⟩;refine ⟨_,rfl,?_⟩;refine zu8 (fun h1=>?_) (fun h1=>?_)
    ·rw [h1,Bool.true_and] at k';walk_at "r";refine ⟨d,p2,b,R,L2,other,rfl,SqL.of (s13.at hd12),SqL.of (s13.at hp212),SqL.of (s13.at hb12),fun H14 s14=>?_⟩;have s1214:=s13.trans s14;refine ⟨_,rfl,?_⟩;refine zu8 (fun h2=>?_) (fun h2=>?_)
     ·rw [h2,Bool.true_and] at k';walk_at "r";refine ⟨a,b,t,ls,one,other,tb,rfl,s1214.at ha12,s1214.at hb12,T12.same s1214,by lia,by lia,fun H15 s15=>?_⟩;exact k' _ _ ⟨rfl,s1214.trans s15⟩
     ·rw [h2,Bool.false_and] at k';exact k' _ _ ⟨rfl,s1214⟩
    ·rw [h1,Bool.false_and,Bool.false_and] at k';exact k' _ _ ⟨rfl,s13⟩
   rintro _ H13 ⟨rfl,s13⟩;have ha13:=s13.at ha12;have hb13:=s13.at hb12;have hd13:=s13.at hd12;have T13:=T12.same s13;have M13:=M12.same s13;have s513:=s512.trans s13;clear s13 s512 M12 T12 ha12 hb12 hd12 hp112 hp212 o12;repeat ((fail_if_success (with_reducible show z00 _ _ _ _ _));walk_at "q")
   refine zbg (fun v H'=>v=.bl (Lf.both one other R L1 L2 tb)/\H'=H13) (fun Q' k'=>?_) ?_
   ·walk_at "r";have eb:Lf.both one other R L1 L2 tb=(Lf.stands R L1 one&&Lf.stands R L2 other&&Lf.tab one other tb&&decide ((R.length:Int)+Lf.zqy tb=(one.length:Int)+other.length)):=rfl;rw [eb] at k';refine zu8 (fun h1=>?_) (fun h1=>?_)
    ·rw [h1,Bool.true_and] at k';have ok:=Lf.znl.mp (Bool.and_eq_true_iff.mp h1).2;have len:=ok.len;have Tt:=T13.at_;walk_at "r";refine zfz T13 (by lia) (fun l5 e5 hl5=>?_);have ll:(tb.getD (tb.length-1) []).length=other.length+1:=by rw [show tb.length-1=one.length by lia];exact ok.lens _ (Nat.le_refl _)
     walk_at "r";refine zhy (SqL.of hl5) (by lia) ?_;rw [show (tb.getD (tb.length-1) []).getD ((tb.getD (tb.length-1) []).length-1) 0=Lf.zqy tb from rfl];walk_at "r";exact k' _ _ ⟨rfl,rfl⟩
    ·rw [h1,Bool.false_and] at k';exact k' _ _ ⟨rfl,rfl⟩
   rintro _ _ ⟨rfl,rfl⟩;have o13:=M13.ob;have fn13:=M13.fn;walk_at "r";refine ⟨x1,dx1,fs1,r1,m1,q1,tb1,ls1,R,L1,L2,tb,a,b,one,other,rfl,M13,ha13,hb13,by lia,by lia,by lia,by lia,fun i hi=>Nat.le_trans (n7 i hi) (by decide),by lia,by lia,fun H14 s14=>?_⟩;walk_at "r";refine ⟨_,_,rfl,?_⟩;walk_at "r";exact ⟨_,_,_,_,_,_,rfl,s5.trans (s513.trans s14)⟩
  ·rintro σ H5 ⟨v6,v7,v8,v9,v10,v11,rfl,s5⟩;walk_at "r";exact ⟨_,_,_,_,_,_,_,_,rfl,s2.trans (s24.trans s5)⟩
 ·rintro σ H2 ⟨v4,v5,v6,v7,v8,v9,v10,v11,rfl,s2⟩;walk_at "r";exact k _ (s1.trans s2)
noncomputable abbrev zbn:=bd 60
noncomputable abbrev zdx:List Str:=["_law_one","_law_other","_law_script","_law_found","_law_both","_law_lines","_law_at","_law_greater","_law_some","_law_table_here","_law_mine","_law_theirs","_law_handed","_law_answer","_law_line"]
noncomputable abbrev wj:List Str:=["_law_one","_law_other","_law_script"]
theorem zdb:z7 zdx wj (zq zbn):=by walk_at "a"
theorem z5i {H:Hp}{Q:VK}{p:Addr}{ys:List V} (hs:H p=some (.lst ys)) (h:Q (.int ys.length) H):zsd K [.ref p] H Q:=.inl ⟨p,ys,rfl,.inl (SqL.of hs),h⟩
theorem zko.but {C:Addr}{H H':Hp}{x dx:Addr}{fs:List (Str×V)}{m q t:Addr}{ls us:List Addr}{mine theirs:List Int}{tb:List (List Int)} (L:zko C H x dx fs m q t ls mine theirs tb) (s:SameBut us H H') (h0:x∉us) (h2:m∉us) (h3:q∉us) (h4:t∉us) (h5:∀ l∈ls,l∉us):zko C H' x dx fs m q t ls mine theirs tb :=
 ⟨s.at L.ob h0,L.fm,L.fq,L.fb,L.fn,s.at L.hm h2,s.at L.hq h3,L.tab.but s h4 h5⟩
noncomputable def zde (K:PySem.W.Frag):Sp:=fun vs H Q _=>∃ (a b c:Addr) (one other ns:List Int),vs=[.ref a,.ref b,.ref c]/\H a=some (.lst (one.map V.int))/\H b=some (.lst (other.map V.int))/\SqL K H c (ns.map V.int)/\one.length<=50/\other.length<=50/\ns.length<=63/\∀ H',Same H H'->Q (.bl true) H'
theorem zid (F:Fun K "_law_tables_right" "_law_tables_right" zbn f fd) (T:Blt mg)
  (zxs:Cal K mg "longest" f1 fd1 zg4) (zwz:qm P w K mg base CX0 8 f1 fd1 zg4 (zp1 z6))
  (zwm:Cal K mg "shortest" f2 fd2 ze4) (zvz:qm P w K mg base CX0 8 f2 fd2 ze4 (zn4 jm))
  (uz:Cal K mg "_law_bent" f3 fd3 vp) (uw:qm P w K mg base CX0 1 f3 fd3 vp (zcu K))
  (yc:Cal K mg "_law_says" f4 fd4 jz) (xj:qm P w K mg base CX0 1 f4 fd4 jz za2)
  (ztw:Cal K mg "_law_long" f5 fd5 zec) (zta:qm P w K mg base CX0 2 f5 fd5 zec zl7)
  (zld:Cal K mg "_law_rows_right" f6 fd6 ur) (zla:qm P w K mg base CX0 9 f6 fd6 ur (zeg jm))
  (j9:Met K z6 "shows" f7 fd7 vo) (zaz:qm P w K mg base CX0 8 f7 fd7 vo (zcx z6))
  (zd1:Mak K mg "Longest" z6 f8 fd8 jh) (yd:qm P w K mg base CX0 1 f8 fd8 jh (zmo z6))
  (zdp:Ins K z6) (zi4:jb K z6 "mine") (zgg:jb K z6 "theirs") (zhq:jb K z6 "table")
  : qm P w K mg base CX0 10 f fd wj (zde K):=by
 refine F.ok zdb (fun vs H Q E h=>by obtain ⟨_,_,_,_,_,_,rfl,_⟩:=h;rfl) fun cdv A outer s H vs Q E hr h=>?_;obtain ⟨a,b,c,one,other,ns,rfl,ha,hb,hc,n1,n2,n3,k⟩:=h;have nd:=zdb.nd;have hu:=hr.units;refine ⟨_,(za (z11 (i:=3) (j:=4) rfl nd rfl rfl (by decide) rfl rfl (a2 (fcl zwz hr zxs (a2 (pv 0) (pv 1))) (fcl zvz hr zwm (a2 (pv 0) (pv 1)))) (by with_unfolding_all rfl))
  (za (zmv (N:=["_law_line"]) (k:=1) (caps:=[]) (Block.of (by kernel_rfl)) rfl (qb (qg (pv 3) rfl)) (fun _ _ _ _=>⟨_,(gv 0 (by show List.Nodup (["_law_line"]:List Str);decide)),by walk_at "c"⟩) (fun _ _ _ _=>⟨_,zth.none,by walk_at "c"⟩) (fun _ _ _ _=>⟨_,(lo T (pv 0)),by walk_at "c"⟩) nd (i:=5) rfl rfl (by with_unfolding_all rfl))
  (za (sv 6 nd (z9 zcb (z9 zjk (jk (zkj rfl) rfl T.no_sum boot_sum (a1 (pv 2))) zc) (ln T (pv 5))))
  (za (zy4 (fcl uw hr uz (a2 (px (pv 5) (pv 6)) (ju yo (pv 2) q9 (j4 zc)))) (zuf (pv 5) (pv 6) set_list))
  (za (zmv (N:=["_law_line"]) (k:=1) (caps:=[]) (Block.of (by kernel_rfl)) rfl (qb (qg (pv 3) rfl)) (fun _ _ _ _=>⟨_,(gv 0 (by show List.Nodup (["_law_line"]:List Str);decide)),by walk_at "c"⟩) (fun _ _ _ _=>⟨_,zth.none,by walk_at "c"⟩) (fun _ _ _ _=>⟨_,(pcm (N:=["_law_number"]) (caps:=[]) (qb (pv 0)) (fun _ _ _ _=>⟨_,(z9 z8 (pv 0) zc),by walk_at "c"⟩)),by walk_at "c"⟩) nd (i:=7) rfl rfl (by with_unfolding_all rfl))
  (za (sv 8 nd (zr (a2 (yr (a2 (qg (pv 3) rfl) (qg (pv 3) rfl))) (yr (a2 (ju yo (qg (pv 3) rfl) (j4 zc) q9) (ju yo (qg (pv 3) rfl) (j4 zc) q9))))))
  (za (pap (pv 8) (yr (a2 (fcl uw hr uz (a2 (qg (pv 3) rfl) (pv 2))) (qg (pv 3) rfl))))
  (za (vq PassesOwn.never rfl (qb (zr (zm (qg (pv 3) rfl) (zm (pv 5) (zm (pv 7) (zm (ju yo (qg (pv 3) rfl) (j4 zc) q9) (zm (z9 z8 (qg (pv 3) rfl) (zr (a1 (zr qu)))) (zm (zr qu) qu)))))))) (gv 9 nd) (za (vq PassesOwn.never rfl (qb (pv 8)) (zel (n:=2) rfl (jj (gv 10 nd) (jj (gv 11 nd) zb2))) (za (sv 12 nd (zr (a3 (lo T (pv 10)) (lo T (pv 11)) (pcm (N:=["_law_line"]) (caps:=[]) (qb (pv 9)) (fun _ _ _ _=>⟨_,(lo T (pv 0)),by walk_at "c"⟩)))))
  (za (sv 13 nd (fmk zd1 yd hr (a3 (px (pv 12) zc) (px (pv 12) zc) (px (pv 12) zc))))
  (za (vq PassesOwn.never rfl (qb (z9 z8 (ju yo (pv 12) q9 (j4 zc)) (px (pv 12) zc))) (gv 14 nd) (zp (pap (pv 14) zc)))
  (za (pap (px (pv 12) zc) (zr (a1 zc)))
  (za (pif (tc (za8 hu) (zr (a3 (qg (pv 13) rfl) (qg (pv 13) rfl) (qg (pv 13) rfl))) (zr (a3 (pv 10) (pv 11) (pv 9)))))
  (zp (pif (yj (j5 (fcl xj hr yc (a2 (yq (pv 13) zdp.cl j9.m zaz (hr.mono (by decide)) j9.b .nil zb9 (a2 (pv 0) (pv 1))) (fcl zta hr ztw (zm (pv 0) (zm (pv 1) (zm (pv 10) (zm (pv 11) (zm (pv 9) qu))))))))))))))))))
  (zp (pif (yj (j5 (fcl zla hr zld (zm (pv 0) (zm (pv 1) (zm (pv 4) (zm (pv 9) qu)))))))))))
  (zp (qx zf5)))))))))),?_⟩
 try simp only [ck1,ck2]
 rw [show L2.start zdx [V.ref a,V.ref b,V.ref c]=[some (V.ref a),some (V.ref b),some (V.ref c),none,none,none,none,none,none,none,none,none,none,none,none] from rfl];walk_at "r";refine ⟨a,b,one,other,rfl,ha,hb,by lia,by lia,fun x dx fs m q t ls mine theirs tb H1 _ _ _ _ _ _ _ _ _ s1 L1 z1 z2 z3 z4=>?_⟩;walk_at "r";refine ⟨a,b,one,other,rfl,s1.at ha,s1.at hb,by lia,by lia,fun x2 dx2 fs2 r2 m2 q2 t2 ls2 row2 mine2 theirs2 tb2 H2 _ _ _ _ _ _ _ s12 B2 y1 y2 y3 y4 y5=>?_⟩;have s2:=s1.trans s12;have L2:=L1.same s12;clear L1 s1 s12;have ha2:=s2.at ha;have hb2:=s2.at hb;have hc2:=s2.seq hc;have ob2:=L2.ob;have fm:=L2.fm;have fq:=L2.fq;have fb:=L2.fb;have T2:=L2.tab;have lz:=T2.len;have Tt2:=T2.at_;walk_at "r";refine zdf (zfx lz) (fun y=>.lst (y.2.map V.int)) (fun H' s'=>T2.same s') (by rw [List.length_zip];lia) ?_ ?_
 ·rintro i ⟨l,line⟩ x' H7 H8 R0 R' hi s7 ⟨rfl,rfl,hl⟩ h7;walk_at "r";refine ⟨⟨rfl,rfl⟩,?_⟩;walk_at "r";intro p hp;exact h7 p _ (Same.upd_new hp) hp zb
 intro D3 H3 us hD3 s23 hd3 ll nd' nD fr at';have T3:Tab H3 D3 us tb:=Tab.of_copy lz hd3 ll at';have lus:=T3.len;have hc3:=s23.seq hc2;clear at' ll fr;walk_at "r";refine z5i hd3 ?_;have e0:(us.map V.ref).length=one.length+1:=by rw [List.length_map];lia
 rw [e0];walk_at "r";have b1:0<=ns.sum/7%((one.length+1:Nat):Int):=Int.emod_nonneg _ (by lia);have b2:ns.sum/7%((one.length+1:Nat):Int)<((one.length+1:Nat):Int):=Int.emod_lt_of_pos _ (by lia);generalize ns.sum/7%((one.length+1:Nat):Int)=at' at b1 b2 ⊢;walk_at "r";refine ut T3 b1 (by lia) (fun l hl hl3=>?_);have lal:(tb.getD at'.toNat []).length<=51:=by have:=z4 at'.toNat (by lia);lia
 walk_at "r";intro v1 hv1;have hc4:=hv1;walk_at "r";refine ⟨l,v1,tb.getD at'.toNat [],ns.take (2:Int).toNat,rfl,zu hl3 hv1,SqL.of zb,by lia,by rw [List.length_take];lia,fun p4 ys H4 hp4 s34 h4 ly=>?_⟩;have ly':ys.length<=114:=by rw [List.length_take] at ly;lia
 have s3':Same H3 H4:=(Same.upd_new hv1).trans s34;have T4:=T3.same s3';have p4D:p4≠D3:=fun e=>by rw [e,zu hd3 hv1] at hp4;cases hp4
 clear s34 hc4 hv1 hp4;walk_at "r";refine z50 T4.at_ b1 (by rw [e0];exact b2) ?_;rw [<- List.map_set];have hD5:(upd H4 D3 (.lst ((us.set at'.toNat p4).map V.ref))) D3=some (.lst ((us.set at'.toNat p4).map V.ref)):=zb;have s25:Same H2 (upd H4 D3 (.lst ((us.set at'.toNat p4).map V.ref))):=zgb (s23.trans s3') (fun z o h hn=>zf h (by simpa using hn)) (ls:=[D3]) (by simpa using hD3);have TA5:TbA (upd H4 D3 (.lst ((us.set at'.toNat p4).map V.ref))) us tb:=⟨T4.len,fun i u e=>zf (T4.row i u e) fun z=>nD (z▸List.mem_of_getElem? e)⟩
 have p45:(upd H4 D3 (.lst ((us.set at'.toNat p4).map V.ref))) p4=some (.lst (ys.map V.int)):=zf h4 p4D;generalize upd H4 D3 (.lst ((us.set at'.toNat p4).map V.ref))=H5 at hD5 s25 TA5 p45 ⊢;have TL5:=(TA5.set (n:=at'.toNat) p45).tab hD5;have big5:∀ l∈tb.set at'.toNat ys,l.length<=200:=fun l hl=>by
  rcases List.mem_or_eq_of_mem_set hl with z|z
  ·have:=zf7 (n:=51) (fun i hi=>by have:=z4 i hi;lia) l z;lia
  ·rw [z];lia
 have len5:(tb.set at'.toNat ys).length=one.length+1:=by rw [List.length_set];exact z3
 generalize tb.set at'.toNat ys=lines at TL5 big5 len5;generalize us.set at'.toNat p4=us5 at TL5 hD5;clear TA5 p45 T4 s3' h4 p4D hl hl3 T3 lus hc3 hd3 s23 nd' nD hD3 e0 lal ly;have L5:=L2.same s25;have ob5:=L5.ob;have T5:=L5.tab;have Tt5:=T5.at_;clear L2 ob2 T2 Tt2;walk_at "r";refine zdf (zfx lz) (fun y=>.lst ((y.2.map fun z=>z+1).map V.int)) (fun H' s'=>T5.same s') (by rw [List.length_zip];lia) ?_ ?_
 ·rintro i ⟨l,line⟩ x' H7 H8 R0 R' hi s7 ⟨rfl,rfl,hl⟩ h7;have hlen:line.length<=51:=by
   have:=List.of_mem_zip (List.mem_of_getElem? hi);exact zf7 (n:=51) (fun i hi=>by have:=z4 i hi;lia) line this.2
  walk_at "r";refine ⟨⟨rfl,rfl⟩,?_⟩;walk_at "r";refine zbf (wz (ns:=line)) (fun z=>z+1) (fun H' s'=>SqL.of (s'.at hl)) (by lia) ?_ ?_
  ·rintro j z x2' H9 H10 R R2 hj s9 ⟨rfl,rfl⟩ h1;walk_at "r";refine ⟨⟨rfl,rfl⟩,?_⟩;walk_at "r";exact h1 _ (Same.refl _)
  intro D H9 hD s9 hd;exact h7 D _ s9 hD hd
 intro D6 H6 ws hD6 s56 hd6 ll6 _ _ _ at6;have TA6:TbA H6 ws (tb.map fun l=>l.map fun z=>z+1):=TbA.of_new lz ll6 at6;have TG6:=TA6.tab hd6;have big6:∀ l∈(tb.map fun l=>l.map fun z=>z+1),l.length<=200:=fun l hl=>by
  obtain ⟨y,hy,rfl⟩:=List.mem_map.mp hl;rw [List.length_map];have:=zf7 (n:=51) (fun i hi=>by have:=z4 i hi;lia) y hy;lia
 have len6:(tb.map fun l=>l.map fun z=>z+1).length=one.length+1:=by rw [List.length_map];exact z3
 generalize (tb.map fun l=>l.map fun z=>z+1)=greater at TG6 big6 len6;have TL6:=TL5.same s56;have L6:=L5.same s56;have s26:=s25.trans s56;clear at6 ll6 TA6 hd6 hD6 s56 s25 TL5 L5 ob5 T5 Tt5 hD5;have ob6:=L6.ob;have T6:=L6.tab;have Tt6:=T6.at_;have hm6:=L6.hm;have hq6:=L6.hq;have hc6:=s26.seq hc2;walk_at "r";intro t1 ht1;walk_at "r";intro v2 hv2;walk_at "r";intro v3 hv3;walk_at "r";intro t3 ht3;walk_at "r";intro g hg;generalize hH7:upd _ g (HO.lst [V.ref t1,V.ref t3])=H7;have s67:Same H6 H7:=by rw [<- hH7];walk_at "s"
 have hg7:H7 g=some (.lst [V.ref t1,V.ref t3]):=by rw [<- hH7];walk_at "f"
 have q1:H7 t1=some (.tup [.ref m,.ref q]):=by rw [<- hH7];walk_at "f"
 have q2:H7 t3=some (.tup [.ref v2,.ref v3]):=by rw [<- hH7];walk_at "f"
 have q3:H7 v2=some (.lst ((mine.drop (1:Int).toNat).map V.int)):=by rw [<- hH7];walk_at "f"
 have q4:H7 v3=some (.lst ((theirs.drop (1:Int).toNat).map V.int)):=by rw [<- hH7];walk_at "f"
 have fg6:H6 g=none:=zy (zy (zy (zy hg)));clear hH7 ht1 hv2 hv3 ht3 hg;have L7:=L6.same s67;have ob7:=L7.ob;have hm7:=L7.hm;have hq7:=L7.hq;have hc7:=s67.seq hc6;walk_at "r";refine ⟨m,c,mine,ns,rfl,hm7,hc7,by lia,n3,fun p8 ys8 H8 hp8 s78 h8 ly8=>?_⟩;have L8:=L7.same s78;have ob8:=L8.ob;have hg8:=s78.at hg7;walk_at "r";intro t4 ht4;have s89:Same H8 (upd H8 t4 (.tup [.ref p8,.ref q])):=Same.upd_new ht4;have q59:(upd H8 t4 (.tup [.ref p8,.ref q])) t4=some (.tup [.ref p8,.ref q]):=zb;generalize upd H8 t4 (.tup [.ref p8,.ref q])=H9 at s89 q59 ⊢;have s79:=s78.trans s89;have hg9:=s79.at hg7;have t1g:t1≠g:=fun e=>by rw [e,hg7] at q1;cases q1
 have t3g:t3≠g:=fun e=>by rw [e,hg7] at q2;cases q2
 have t4g:t4≠g:=fun e=>by rw [e,hg9] at q59;cases q59
 have p8g:p8≠g:=fun e=>by rw [e,hg7] at hp8;cases hp8
 walk_at "r";refine zia hg9 (by simp) ?_;have b10:SameBut [g] H9 (upd H9 g (.lst ([V.ref t1,V.ref t3]++[.ref t4]))):=fun z o h hn=>zf h (by simpa using hn);have hg10:(upd H9 g (.lst ([V.ref t1,V.ref t3]++[.ref t4]))) g=some (.lst [.ref t1,.ref t3,.ref t4]):=zb;generalize upd H9 g (.lst ([V.ref t1,V.ref t3]++[.ref t4]))=H10 at b10 hg10 ⊢;have s610:Same H6 H10:=zgb (s67.trans s79) b10 (by simpa using fg6);have v2g:v2≠g:=fun e=>by
  rw [e,hg7] at q3;have:=congrArg (fun o:Option HO=>match o with|some (.lst (v::_))=>(match v with|.ref _=>1|_=>2)|_=>0) q3;revert this
  cases mine.drop (1:Int).toNat<;>simp
 have v3g:v3≠g:=fun e=>by
  rw [e,hg7] at q4;have:=congrArg (fun o:Option HO=>match o with|some (.lst (v::_))=>(match v with|.ref _=>1|_=>2)|_=>0) q4;revert this
  cases theirs.drop (1:Int).toNat<;>simp
 have r1:=b10.at (s79.at q1) (by simpa using t1g);have r2:=b10.at (s79.at q2) (by simpa using t3g);have r3:=b10.at (s79.at q3) (by simpa using v2g);have r4:=b10.at (s79.at q4) (by simpa using v3g);have r5:=b10.at q59 (by simpa using t4g);have r6:=b10.at (s89.at h8) (by simpa using p8g);have L10:=L6.same s610;have some10:∀ v∈[V.ref t1,V.ref t3,V.ref t4],∃ (tt p1 p2:Addr) (X1 X2:List Int),v=.ref tt/\H10 tt=some (.tup [.ref p1,.ref p2])/\H10 p1=some (.lst (X1.map V.int))/\H10 p2=some (.lst (X2.map V.int))/\X1.length<=200/\X2.length<=200:=by
  intro v hv;simp only [List.mem_cons,List.mem_nil_iff,or_false] at hv;rcases hv with rfl|rfl|rfl
  ·exact ⟨t1,m,q,mine,theirs,rfl,r1,L10.hm,L10.hq,by lia,by lia⟩
  ·exact ⟨t3,v2,v3,_,_,rfl,r2,r3,r4,by simp;lia,by simp;lia⟩
  ·exact ⟨t4,p8,q,ys8,theirs,rfl,r5,r6,L10.hq,by lia,by lia⟩
 have TL10:=TL6.same s610;have TG10:=TG6.same s610;have s210:=s26.trans s610;clear r1 r2 r3 r4 r5 r6 v2g v3g t1g t3g t4g p8g b10 s79 s89 s78 s67 q1 q2 q3 q4 q59 hg7 hg8 hg9 L7 L8 ob7 ob8 hm7 hq7 hc7 h8 hp8 ht4 TL6 TG6 L6 ob6 T6 Tt6 hm6 hq6 hc6 fg6 s26 s610;have ob10:=L10.ob;have T10:=L10.tab;have Tt10:=T10.at_;walk_at "r";refine zrr Tt10 (by decide) ?_;intro w1 hw1;walk_at "r";intro w2 hw2;walk_at "r";intro w3 hw3;refine zhw (by walk_at "f") (by walk_at "f") (by simp;lia) ?_;intro w4 hw4;walk_at "r";intro w5 hw5;walk_at "r";intro g2 hg2;generalize hH11:upd _ g2 (HO.lst [V.ref t,V.ref D3,V.ref D6,V.ref w1,V.ref w4,V.ref w5])=H11;have s1011:Same H10 H11:=by rw [<- hH11];walk_at "s"
 have hg11:H11 g2=some (.lst [V.ref t,V.ref D3,V.ref D6,V.ref w1,V.ref w4,V.ref w5]):=by rw [<- hH11];walk_at "f"
 have TA11:=T10.a.same s1011;have bigT:∀ l∈tb,l.length<=200:=zf7 (fun i hi=>by have:=z4 i hi;lia);have hw2':H11 w2=some (.lst (([]:List Int).map V.int)):=by rw [<- hH11];walk_at "f"
 have all11:∀ v∈[V.ref t,V.ref D3,V.ref D6,V.ref w1,V.ref w4,V.ref w5],∃ (d:Addr) (us:List Addr) (tb':List (List Int)),v=.ref d/\Tab H11 d us tb'/\tb'.length<=100/\∀ l∈tb',l.length<=200:=by
  intro v hv;simp only [List.mem_cons,List.mem_nil_iff,or_false] at hv;rcases hv with rfl|rfl|rfl|rfl|rfl|rfl
  ·exact ⟨t,ls,tb,rfl,T10.same s1011,by lia,bigT⟩
  ·exact ⟨D3,us5,lines,rfl,TL10.same s1011,by lia,big5⟩
  ·exact ⟨D6,ws,greater,rfl,TG10.same s1011,by lia,big6⟩
  ·exact ⟨w1,_,tb.drop (1:Int).toNat,rfl,(TA11.drop _).tab (by rw [<- hH11,List.map_drop];walk_at "f"),by simp;lia,fun l hl=>bigT l (List.mem_of_mem_drop hl)⟩
  ·refine ⟨w4,_,tb++[[]],rfl,(TA11.append (TbA.cons (xs:=[]) hw2' TbA.nil)).tab (by rw [<- hH11,List.map_append];walk_at "f"),by simp;lia,fun l hl=>?_⟩;rcases List.mem_append.mp hl with z|z
   ·exact bigT l z
   ·rw [List.mem_singleton.mp z];simp
  ·exact ⟨w5,[],[],rfl,TbA.nil.tab (by rw [<- hH11];walk_at "f"),by simp,by simp⟩
 have s211:=s210.trans s1011;have ha11:=s211.at ha2;have hb11:=s211.at hb2;have B11:=B2.same s211;have hgs11:=s1011.at hg10;have s011:=s2.trans s211;clear hH11 hw1 hw2 hw3 hw4 hw5 hg2 TA11 bigT hw2' TL10 TG10 L10 ob10 T10 Tt10 hg10 ha2 hb2 hc2 B2 s210 s211 s2;walk_at "r";refine vf (zac (xs:=[V.ref t,V.ref D3,V.ref D6,V.ref w1,V.ref w4,V.ref w5])) (fun i σ H12=>∃ v9 v10 v11 v12 v13 v14:Option V,σ=[some (.ref a),some (.ref b),some (.ref c),some (.ref x),some (.ref x2),some (.ref D3),some (.int at'),some (.ref D6),some (.ref g),v9,v10,v11,v12,v13,v14]/\Same H11 H12) ?_ ?_ ?_ ?_
 ·exact ⟨_,_,_,_,_,_,rfl,Same.refl _⟩
 ·rintro i σ H12 _ ⟨_,_,_,_,_,_,_,s12⟩;exact SqL.of (s12.at hg11)
 ·rintro i v y σ H12' H12 hy ⟨v9,v10,v11,v12,v13,v14,rfl,s12⟩ ⟨rfl,rfl⟩;obtain ⟨d,ds,tbl,rfl,hd,hl1,hl2⟩:=all11 _ (List.mem_of_getElem? hy);have T12:=hd.same s12;have Tt12:=T12.at_;have hgs12:=s12.at hgs11;have ha12:=s12.at ha11;have hb12:=s12.at hb11;have B12:=B11.same s12;clear all11 hd;walk_at "r";refine vf (zac (xs:=[V.ref t1,V.ref t3,V.ref t4])) (fun i σ H5=>∃ v10 v11 v12 v13 v14:Option V,σ=[some (.ref a),some (.ref b),some (.ref c),some (.ref x),some (.ref x2),some (.ref D3),some (.int at'),some (.ref D6),some (.ref g),some (.ref d),v10,v11,v12,v13,v14]/\Same H12 H5) ?_ ?_ ?_ ?_
  ·exact ⟨_,_,_,_,_,rfl,Same.refl _⟩
  ·rintro i σ H5 _ ⟨_,_,_,_,_,_,s5⟩;exact SqL.of (s5.at hgs12)
  ·rintro i v y σ H5' H5 hy ⟨v10,v11,v12,v13,v14,rfl,s5⟩ ⟨rfl,rfl⟩;obtain ⟨tt,p1,p2,X1,X2,rfl,htt,hp1,hp2,hX1,hX2⟩:=some10 _ (List.mem_of_getElem? hy);have s105:=s1011.trans (s12.trans s5);have htt5:=s105.at htt;have hp15:=s105.at hp1;have hp25:=s105.at hp2;have ha5:=s5.at ha12;have hb5:=s5.at hb12;have T5:=T12.same s5;have Tt5:=T5.at_;clear some10 htt hp1 hp2 s105;walk_at "r";intro u1 hu1;walk_at "r";intro u2 hu2;generalize hH6:upd _ u2 (HO.lst (X2.map V.int))=H6;have s56:Same H5 H6:=by rw [<- hH6];walk_at "s"
   have hu16:H6 u1=some (.lst (X1.map V.int)):=by rw [<- hH6];walk_at "f"
   have hu26:H6 u2=some (.lst (X2.map V.int)):=by rw [<- hH6];walk_at "f"
   have fu1:H5 u1=none:=hu1;have fu2:H5 u2=none:=zy hu2;clear hH6 hu1 hu2;have T6:=T5.same s56;have Tt6:=T6.at_;have lz6:=T6.len;walk_at "r";refine zdf (zfx lz6) (fun y=>.lst (y.2.map V.int)) (fun H' s'=>T6.same s') (by rw [List.length_zip];lia) ?_ ?_
   ·rintro i ⟨l,line⟩ x' H7 H8 R0 R' hi s7 ⟨rfl,rfl,hl⟩ h7;walk_at "r";refine ⟨⟨rfl,rfl⟩,?_⟩;walk_at "r";intro p hp;exact h7 p _ (Same.upd_new hp) hp zb
   intro D7 H7 us hD7 s67 hd7 ll nd' nD fr at7;have T7:Tab H7 D7 us tbl:=Tab.of_copy lz6 hd7 ll at7;have fD7:H5 D7=none:=s56.free hD7;walk_at "r";intro hh hhh;have s78:Same H7 (upd H7 hh (.lst [.ref u1,.ref u2,.ref D7])):=Same.upd_new hhh;have hh8:(upd H7 hh (.lst [.ref u1,.ref u2,.ref D7])) hh=some (.lst [.ref u1,.ref u2,.ref D7]):=zb;have hhD:hh≠D7:=fun e=>by rw [e,hd7] at hhh;cases hhh
   generalize upd H7 hh (.lst [.ref u1,.ref u2,.ref D7])=H8 at s78 hh8 ⊢;have s68:=s67.trans s78;have hu18:=s68.at hu16;have hu28:=s68.at hu26;have T8:=T7.same s78;have D7u1:D7≠u1:=fun e=>by rw [e,hu16] at hD7;cases hD7
   have D7u2:D7≠u2:=fun e=>by rw [e,hu26] at hD7;cases hD7
   have fus:∀ l∈us,H5 l=none:=fun l hl=>s56.free (fr l hl);have s58:=s56.trans s68;have hhus:hh∉us:=fun hl=>by
    obtain ⟨i,hi⟩:=List.getElem?_of_mem hl;have:=T7.row i hh hi;rw [hhh] at this;cases this
   have hhu1:hh≠u1:=fun e=>by rw [e,s67.at hu16] at hhh;cases hhh
   have hhu2:hh≠u2:=fun e=>by rw [e,s67.at hu26] at hhh;cases hhh
   clear s67 s78 s68 hhh hu16 hu26 T7 hd7 at7 fr s56 T6 Tt6;walk_at "r";intro x1 dx1 hx1 hdx1 xd1;have T9:Tab (upd (upd H8 dx1 (.own x1)) x1 (.ins z6 dx1 [])) D7 us tbl:=⟨qe hx1 hdx1 T8.at_,T8.len,fun i l hl=>qe hx1 hdx1 (T8.row i l hl)⟩
   refine ⟨x1,dx1,u1,u2,D7,us,X1,X2,tbl,rfl,zb,qe hx1 hdx1 hu18,qe hx1 hdx1 hu28,T9,by lia,fun fs1 m1 q1 tb1 ls1 H9 fm1 fq1 ft1 fl1 _ _ _ _ b9 M=>⟨rfl,?_⟩⟩;have s89:=jl hx1 hdx1 b9;have lines8:∀ l∈u1::u2::us,∃ xs:List V,H8 l=some (.lst xs)/\xs.length<=500:=fun l hl=>by
    simp only [List.mem_cons] at hl;rcases hl with rfl|rfl|hl
    ·exact ⟨_,hu18,by simp;lia⟩
    ·exact ⟨_,hu28,by simp;lia⟩
    ·obtain ⟨i,hi⟩:=List.getElem?_of_mem hl;refine ⟨_,T8.row i l hi,?_⟩;rw [List.length_map];have:=(List.getElem?_eq_some_iff.mp hi).1;rw [T8.len] at this;exact Nat.le_trans (zja hl2 i this) (by decide)
   have out:∀ z,(upd (upd H8 dx1 (.own x1)) x1 (.ins z6 dx1 [])) z=none->z∉D7::u1::u2::us:=fun z hz hl=>by
    rcases List.mem_cons.mp hl with e|hl
    ·rw [e] at hz;have:=zb7 hz;rw [T8.at_] at this;cases this
    ·obtain ⟨xs,e,_⟩:=lines8 z hl;rw [zb7 hz] at e;cases e
   have x1o:x1∉D7::u1::u2::us:=fun hl=>by
    rcases List.mem_cons.mp hl with e|hl
    ·rw [e,T8.at_] at hx1;cases hx1
    ·obtain ⟨xs,e,_⟩:=lines8 x1 hl;rw [hx1] at e;cases e
   have m1o:=out m1 fm1;have q1o:=out q1 fq1;have t1o:=out tb1 ft1;have l1o:∀ l∈ls1,l∉D7::u1::u2::us:=fun l hl=>out l (fl1 l hl);have flines:∀ l∈D7::u1::u2::us,H5 l=none:=fun l hl=>by
    simp only [List.mem_cons] at hl;rcases hl with rfl|rfl|rfl|hl
    ·exact fD7
    ·exact fu1
    ·exact fu2
    ·exact fus l hl
   have Do:D7∉u1::u2::us:=fun hl=>by
    simp only [List.mem_cons] at hl;rcases hl with z|z|z
    ·exact D7u1 z
    ·exact D7u2 z
    ·exact nD z
   have hho:hh∉u1::u2::us:=fun hl=>by
    simp only [List.mem_cons] at hl;rcases hl with z|z|z
    ·exact hhu1 z
    ·exact hhu2 z
    ·exact hhus z
   have hh9:=s89.at hh8;have hD9:=s89.at T8.at_;have s59:=s58.trans s89;have lines9:∀ l∈u1::u2::us,∃ xs:List V,H9 l=some (.lst xs)/\xs.length<=500:=fun l hl=>by
    obtain ⟨xs,e,z⟩:=lines8 l hl;exact ⟨xs,s89.at e,z⟩
   have lus:us.length<=500:=by rw [T8.len];lia
   clear out lines8 fm1 fq1 ft1 fl1 b9 hx1 hdx1 T9 T8 hu18 hu28 s89 s58 hh8 fu1 fu2 fus hhus hhu1 hhu2 D7u1 D7u2;walk_at "r";refine zt2 hh9 (by decide) ?_;intro y1 hy1;walk_at "r";refine zhw zb (zu hD9 hy1) (by simp;lia) ?_;intro g3 hg3;have s910:Same H9 (upd (upd H9 y1 (.lst ([V.ref u1,V.ref u2,V.ref D7].take (2:Int).toNat))) g3 (.lst ([V.ref u1,V.ref u2,V.ref D7].take (2:Int).toNat++us.map V.ref))):=(Same.upd_new hy1).trans (Same.upd_new hg3);have hg10:(upd (upd H9 y1 (.lst ([V.ref u1,V.ref u2,V.ref D7].take (2:Int).toNat))) g3 (.lst ([V.ref u1,V.ref u2,V.ref D7].take (2:Int).toNat++us.map V.ref))) g3=some (.lst ((u1::u2::us).map V.ref)):=zb;generalize upd (upd H9 y1 (.lst ([V.ref u1,V.ref u2,V.ref D7].take (2:Int).toNat))) g3 (.lst ([V.ref u1,V.ref u2,V.ref D7].take (2:Int).toNat++us.map V.ref))=H10' at s910 hg10 ⊢;have M10:=M.same s910;have s510:=s59.trans s910;have hh10:=s910.at hh9;have hD10:=s910.at hD9;have lines10:∀ l∈u1::u2::us,∃ xs:List V,H10' l=some (.lst xs)/\xs.length<=500:=fun l hl=>by
    obtain ⟨xs,e,z⟩:=lines9 l hl;exact ⟨xs,s910.at e,z⟩
   have g3o:g3∉u1::u2::us:=fun hl=>by
    obtain ⟨xs,e,_⟩:=lines9 g3 hl;rw [zy hg3] at e;cases e
   have lsl:(u1::u2::us).length<=600:=by simp;lia
   clear lines9 M s910 s59 hy1 hg3 hh9 hD9;generalize hlines:u1::u2::us=lines' at lines10 flines x1o m1o q1o t1o l1o g3o hg10 lsl Do hho;walk_at "r";refine vf (zac (xs:=lines'.map V.ref)) (fun i σ H11=>∃ v14:Option V,σ=[some (.ref a),some (.ref b),some (.ref c),some (.ref x),some (.ref x2),some (.ref D3),some (.int at'),some (.ref D6),some (.ref g),some (.ref d),some (.ref p1),some (.ref p2),some (.ref hh),some (.ref x1),v14]/\SameBut lines' H10' H11/\∀ l∈lines',∃ xs:List V,H11 l=some (.lst xs)/\xs.length<=500+i) ?_ ?_ ?_ ?_
   ·exact ⟨_,rfl,fun b o h _=>h,lines10⟩
   ·rintro i σ H11 _ ⟨_,_,b11,_⟩;exact SqL.of (b11.at hg10 g3o)
   ·rintro i v y σ H11' H11 hy ⟨v14,rfl,b11,l11⟩ ⟨rfl,rfl⟩;have hi:=(List.getElem?_eq_some_iff.mp hy).1;rw [List.length_map] at hi;rw [List.getElem?_map] at hy;obtain ⟨l,hl,rfl⟩:=Option.map_eq_some_iff.mp hy;have hl':=List.mem_of_getElem? hl;obtain ⟨xs,hxs,lxs⟩:=l11 l hl';walk_at "r";refine zia hxs (by lia) ?_;walk_at "r";refine ⟨_,rfl,b11.upd hl',fun z hz=>?_⟩;by_cases e:z=l
    ·subst e;exact ⟨_,zb,by simp;lia⟩
    ·obtain ⟨ys,h1,h2⟩:=l11 z hz;exact ⟨ys,zf h1 e,by lia⟩
   rintro σ H13 ⟨v14,rfl,b13,_⟩;have hh13:=b13.at hh10 hho;have hD13:=b13.at hD10 Do;have bb13:SameBut (D7::lines') H10' H13:=fun z o h hn=>b13 z o h fun q=>hn (List.mem_cons_of_mem _ q);clear b13 lines10 g3o hg10 hh10 hD10;walk_at "r";intro w6 hw6;have w6D:D7≠w6:=zj hD13 hw6;have hD14:=zu (o:=.lst (([0]:List Int).map V.int)) hD13 hw6;have bb14:SameBut (D7::lines') H10' (upd H13 w6 (.lst (([0]:List Int).map V.int))):=bb13.new hw6;generalize upd H13 w6 (.lst (([0]:List Int).map V.int))=H14 at hD14 bb14 ⊢;walk_at "r";refine zia hD14 (by simp;lia) ?_;have bb15:SameBut (D7::lines') H10' (upd H14 D7 (.lst (us.map V.ref++[.ref w6]))):=bb14.upd (by simp);generalize upd H14 D7 (.lst (us.map V.ref++[.ref w6]))=H15 at bb15 ⊢;have M15:=M10.but bb15 x1o m1o q1o t1o l1o;have s515:=zgb s510 bb15 flines;clear bb13 bb14 bb15 M10 s510 hD14 hD13 hw6 w6D;have ha15:=s515.at ha5;have hb15:=s515.at hb5;have hp115:=s515.at hp15;have hp215:=s515.at hp25;have T15:=T5.same s515;have o15:=M15.ob;have e2:=M15.fm;have e3:=M15.fq;have e4:=M15.fb;clear flines x1o m1o q1o t1o l1o hlines hh13;walk_at "r";intro z1' hz1;walk_at "r";intro z2' hz2;have s1516:Same H15 (upd (upd H15 z1' (.lst [.ref m1,.ref q1,.ref tb1])) z2' (.lst [.ref p1,.ref p2,.ref d])):=(Same.upd_new hz1).trans (Same.upd_new hz2);have hz12:(upd (upd H15 z1' (.lst [.ref m1,.ref q1,.ref tb1])) z2' (.lst [.ref p1,.ref p2,.ref d])) z1'=some (.lst [.ref m1,.ref q1,.ref tb1]):=zu zb hz2;have hz22:(upd (upd H15 z1' (.lst [.ref m1,.ref q1,.ref tb1])) z2' (.lst [.ref p1,.ref p2,.ref d])) z2'=some (.lst [.ref p1,.ref p2,.ref d]):=zb;generalize upd (upd H15 z1' (.lst [.ref m1,.ref q1,.ref tb1])) z2' (.lst [.ref p1,.ref p2,.ref d])=H16 at s1516 hz12 hz22 ⊢;have M16:=M15.same s1516;have s516:=s515.trans s1516;have T16:=T15.same s1516;refine z65 hz12 M16.hm M16.hq M16.tab hz22 (s1516.at hp115) (s1516.at hp215) T16 ?_;have ha16:=s1516.at ha15;have hb16:=s1516.at hb15;have hp116:=s1516.at hp115;have hp216:=s1516.at hp215;have o16:=M16.ob;have fn16:=M16.fn;clear hz1 hz2 hz12 hz22 M15 s515 s1516 ha15 hb15 hp115 hp215 T15 o15;walk_at "r";refine ⟨x1,dx1,fs1,m1,q1,tb1,ls1,X1,X2,tbl,a,b,one,other,rfl,M16,ha16,hb16,by lia,by lia,by lia,fun i hi=>Nat.le_trans (zja hl2 i hi) (by decide),by lia,by lia,fun H17 s17=>?_⟩;walk_at "r";refine ⟨a,b,p1,p2,d,ds,one,other,X1,X2,tbl,rfl,s17.at ha16,s17.at hb16,s17.at hp116,s17.at hp216,T16.same s17,by lia,by lia,by lia,fun H18 s18=>?_⟩;walk_at "r";refine ⟨_,_,rfl,?_⟩;walk_at "r";exact ⟨_,_,_,_,_,rfl,s5.trans (s516.trans (s17.trans s18))⟩
  ·rintro σ H5 ⟨v10,v11,v12,v13,v14,rfl,s5⟩;walk_at "r";refine ⟨a,b,x2,d,dx2,fs2,r2,m2,q2,t2,ls2,ds,one,other,row2,mine2,theirs2,tb2,tbl,rfl,s5.at ha12,s5.at hb12,B12.same s5,T12.same s5,by lia,by lia,by lia,by lia,by lia,by lia,fun i hi=>Nat.le_trans (zja hl2 i hi) (by decide),fun H6 s6=>?_⟩;walk_at "r";exact ⟨_,_,_,_,_,_,rfl,s12.trans (s5.trans s6)⟩
 ·rintro σ H12 ⟨v9,v10,v11,v12,v13,v14,rfl,s12⟩;walk_at "r";exact k _ (s011.trans s12)
noncomputable abbrev zc3:=bd 63
noncomputable abbrev zgp:List Str:=["_law_bad","_law_good"]
noncomputable abbrev zaj:List Str:=[]
theorem zff:z7 zgp zaj (zq zc3):=by walk_at "a"
noncomputable def ze6:Sp:=fun vs H Q _=>vs=[]/\∀ H',Same H H'->Q (.bl true) H'
theorem zlo (F:Fun K "_law_few_right" "_law_few_right" zc3 f fd) (T:Blt mg)
  (yc:Cal K mg "_law_says" f0 fd0 jz) (xj:qm P w K mg base CX0 1 f0 fd0 jz za2)
  (zcq:Met K zax "shows" zxk zwy zau) (zgv:qm P w K mg base CX0 8 zxk zwy zau (zf6 zax))
  (zru:Mak K mg "Left" zax zyk zzl j8) (zar:qm P w K mg base CX0 1 zyk zzl j8 (zet zax))
  (j7:Met K vd "shows" zud zu4 zab) (za4:qm P w K mg base CX0 8 zud zu4 zab (zey vd))
  (zg1:Mak K mg "Short" vd zu0 zuh jx) (ye:qm P w K mg base CX0 1 zu0 zuh jx (zet vd))
  (j9:Met K z6 "shows" zp3 zp0 vo) (zaz:qm P w K mg base CX0 8 zp3 zp0 vo (zcx z6))
  (zd1:Mak K mg "Longest" z6 zpl zpi jh) (yd:qm P w K mg base CX0 1 zpl zpi jh (zmo z6))
  (j6:Met K jc "shows" zp6 zp7 vh) (zay:qm P w K mg base CX0 8 zp6 zp7 vh (zc4 jc))
  (zd8:Mak K mg "Missing" jc zo3 zpy ji) (xx:qm P w K mg base CX0 1 zo3 zpy ji (zmq jc))
  (u9:Met K yg "shows" zu2 zum zaf) (zdi:qm P w K mg base CX0 8 zu2 zum zaf (zeu yg))
  (zmt:Mak K mg "Mixed" yg zux zu9 jy) (zal:qm P w K mg base CX0 1 zux zu9 jy (zmm yg))
  (qy:Met K qw "shows" zpg zp2 wg) (vz:qm P w K mg base CX0 8 zpg zp2 wg (zc7 qw))
  (zcm:Mak K mg "Unmixed" qw zo0 zpo jg) (jt:qm P w K mg base CX0 1 zo0 zpo jg (zmn qw))
  (zsn:Ins K zax) (zhz:Ins K vd) (zdp:Ins K z6) (zdy:Ins K jc) (zlq:Ins K yg) (zbs:Ins K qw)
  : qm P w K mg base CX0 9 f fd zaj ze6:=by
 refine F.ok zff (fun vs H Q E h=>by obtain ⟨rfl,_⟩:=h;rfl) fun cdv A outer s H vs Q E hr h=>?_;obtain ⟨rfl,k⟩:=h;have nd:=zff.nd;have hu:=hr.units;refine ⟨_,(za (sv 0 nd (zr (a3 (yq (fmk zg1 ye hr (a1 (zr (a1 zc)))) zhz.cl j7.m za4 (hr.mono (by decide)) j7.b .nil zb9 (a2 (zr (a3 zc zc zc)) (zr (a3 zc zc zc)))) (yq (fmk zg1 ye hr (a1 (zr (a1 zc)))) zhz.cl j7.m za4 (hr.mono (by decide)) j7.b .nil zb9 (a2 (zr (a2 zc zc)) (zr (a2 zc zc)))) (yq (fmk zru zar hr (a1 (zr (a2 zc zc)))) zsn.cl zcq.m zgv (hr.mono (by decide)) zcq.b .nil zb9 (a2 (zr (a1 zc)) (zr (a2 zc zc)))))))
  (za (sv 0 nd (z9 z8 (pv 0) (zr (a2 (yq (fmk zd8 xx hr (a2 (zr qu) (zr (a1 zc)))) zdy.cl j6.m zay (hr.mono (by decide)) j6.b .nil zb9 (a2 (zr (a1 zc)) zc)) (yq (fmk zd8 xx hr (a2 (zr (a1 zc)) (zr (a2 zc zc)))) zdy.cl j6.m zay (hr.mono (by decide)) j6.b .nil zb9 (a2 (zr (a3 zc zc zc)) zc))))))
  (za (sv 0 nd (z9 z8 (pv 0) (zr (a2 (yq (fmk zcm jt hr (a1 (zr (a1 (yr (a2 zc zc)))))) zbs.cl qy.m vz (hr.mono (by decide)) qy.b .nil zb9 (a3 (zr (a2 zc zc)) (zr (a1 zc)) (zr (a1 zc)))) (yq (fmk zcm jt hr (a1 (zr qu))) zbs.cl qy.m vz (hr.mono (by decide)) qy.b .nil zb9 (a3 (zr (a2 zc zc)) (zr (a1 zc)) (zr (a1 zc))))))))
  (za (sv 0 nd (z9 z8 (pv 0) (zr (a2 (yq (fmk zmt zal hr (a1 (zr (a1 zc)))) zlq.cl u9.m zdi (hr.mono (by decide)) u9.b .nil zb9 (a3 (zr (a2 zc zc)) (zr (a1 zc)) (zr (a1 zc)))) (yq (fmk zd1 yd hr (a3 (zr qu) (zr qu) (zr (a2 (zr (a2 zc zc)) (zr (a2 zc zc)))))) zdp.cl j9.m zaz (hr.mono (by decide)) j9.b .nil zb9 (a2 (zr (a1 zc)) (zr (a1 zc))))))))
  (za (pap (pv 0) (yq (fmk zcm jt hr (a1 (zr (a2 (yr (a2 zc zc)) (yr (a2 (zdh zao zc) zc)))))) zbs.cl qy.m vz (hr.mono (by decide)) qy.b .nil zb9 (a3 (zr (a2 zc zc)) (zr (a1 zc)) (zr (a1 zc)))))
  (za (sv 1 nd (zr (a1 (yq (fmk zd1 yd hr (a3 (zr (a1 zc)) (zr (a1 zc)) (zr (a3 (zr (a2 zc zc)) (zr (a2 zc zc)) (zr (a2 zc zc)))))) zdp.cl j9.m zaz (hr.mono (by decide)) j9.b .nil zb9 (a2 (zr (a2 zc zc)) (zr (a1 zc)))))))
  (za (sv 1 nd (z9 z8 (pv 1) (zr (a3 (yq (fmk zg1 ye hr (a1 (zr (a1 zc)))) zhz.cl j7.m za4 (hr.mono (by decide)) j7.b .nil zb9 (a2 (zr (a2 zc zc)) (zr (a2 zc zc)))) (yq (fmk zd8 xx hr (a2 (zr (a1 zc)) (zr (a2 zc zc)))) zdy.cl j6.m zay (hr.mono (by decide)) j6.b .nil zb9 (a2 (zr (a3 zc zc zc)) zc)) (yq (fmk zg1 ye hr (a1 (zr qu))) zhz.cl j7.m za4 (hr.mono (by decide)) j7.b .nil zb9 (a2 (zr qu) (zr (a1 zc))))))))
  (za (sv 1 nd (z9 z8 (pv 1) (zr (a2 (yq (fmk zcm jt hr (a1 (zr (a1 (yr (a2 zc zc)))))) zbs.cl qy.m vz (hr.mono (by decide)) qy.b .nil zb9 (a3 (zr (a2 zc zc)) (zr (a1 zc)) (zr (a1 zc)))) (yq (fmk zd1 yd hr (a3 (zr qu) (zr qu) (zr (a1 (zr (a1 zc)))))) zdp.cl j9.m zaz (hr.mono (by decide)) j9.b .nil zb9 (a2 (zr qu) (zr qu)))))))
  (zp (qx (zcv (jk (zbx rfl) rfl T.no_all boot_all (a1 (pcm (N:=["_law_said"]) (caps:=[]) (qb (pv 1)) (fun _ _ _ _=>⟨_,(fcl xj hr yc (a2 (pv 0) zf5)),by walk_at "c"⟩)))) (zd3 (jk (zbx rfl) rfl T.no_all boot_all (a1 (pcm (N:=["_law_said"]) (caps:=[]) (qb (pv 0)) (fun _ _ _ _=>⟨_,(fcl xj hr yc (a2 (pv 0) zf5)),by walk_at "c"⟩)))))))))))))))),?_⟩
 try simp only [ck1,ck2]
 rw [show L2.start zgp []=[none,none] from rfl];walk_at "o";refine zbg (fun v H'=>v=.bl false/\Same H H') (fun Q' k'=>?_) ?_
 ·walk_at "p";intro x dx hx hdx xdx;refine ⟨x,dx,_,[0],rfl,zb,qe hx hdx (by walk_at "f"),fun pl H1 hpl b o q=>⟨rfl,?_⟩⟩;have sa:=jl hx hdx b;have sb:Same H H1:=by walk_at "s"
  clear sa b hx hdx xdx ;walk_at "p";refine ⟨x,dx,pl,_,_,[0],[1,1,2],[1,1,2],rfl,by walk_at "f",by walk_at "f",by walk_at "f",by walk_at "f",by decide,by decide,by decide,fun H1b sc=>?_⟩;rw [Lf.z93];exact k' _ _ ⟨rfl,by walk_at "s"⟩
 rintro _ H1b ⟨rfl,sd1⟩;have sB:=sd1;clear sd1;walk_at "o";refine zbg (fun v H'=>v=.bl false/\Same H1b H') (fun Q' k'=>?_) ?_
 ·walk_at "p";intro x dx hx hdx xdx;refine ⟨x,dx,_,[1],rfl,zb,qe hx hdx (by walk_at "f"),fun pl H1 hpl b o q=>⟨rfl,?_⟩⟩;have sa:=jl hx hdx b;have sb:Same H1b H1:=by walk_at "s"
  clear sa b hx hdx xdx ;walk_at "p";refine ⟨x,dx,pl,_,_,[1],[1,1],[1,2],rfl,by walk_at "f",by walk_at "f",by walk_at "f",by walk_at "f",by decide,by decide,by decide,fun H2b sc=>?_⟩;rw [Lf.qaj];exact k' _ _ ⟨rfl,by walk_at "s"⟩
 rintro _ H2b ⟨rfl,sd2⟩;have sB:=sB.trans sd2;clear sd2;walk_at "o";refine zbg (fun v H'=>v=.bl false/\Same H2b H') (fun Q' k'=>?_) ?_
 ·walk_at "p";intro x dx hx hdx xdx;refine ⟨x,dx,_,[0,0],rfl,zb,qe hx hdx (by walk_at "f"),fun pl H1 hpl b o q=>⟨rfl,?_⟩⟩;have sa:=jl hx hdx b;have sb:Same H2b H1:=by walk_at "s"
  clear sa b hx hdx xdx ;walk_at "p";refine ⟨x,dx,pl,_,_,[0,0],[1],[1,1],rfl,by walk_at "f",by walk_at "f",by walk_at "f",by walk_at "f",by decide,by decide,by decide,fun H3b sc=>?_⟩;rw [Lf.qas];exact k' _ _ ⟨rfl,by walk_at "s"⟩
 rintro _ H3b ⟨rfl,sd3⟩;have sB:=sB.trans sd3;clear sd3;walk_at "r";intro bad hbad;generalize hG4:upd _ bad _=G4;have sg4:Same H3b G4:=by rw [<- hG4];walk_at "s"
 have kbad:G4 bad=some (.lst [.bl false,.bl false,.bl false]):=by rw [<- hG4];exact zb
 have fbad:H bad=none:=sB.free (by walk_at "h");have sB:=sB.trans sg4;clear sg4 hG4 hbad;walk_at "o";refine zbg (fun v H'=>v=.bl false/\Same G4 H') (fun Q' k'=>?_) ?_
 ·walk_at "p";intro x dx hx hdx xdx;refine ⟨x,dx,_,_,[],[1],rfl,zb,qe hx hdx (by walk_at "f"),qe hx hdx (by walk_at "f"),fun fs c q H1 hc hq cq b M=>⟨rfl,?_⟩⟩;have sa:=jl hx hdx b;have sb:Same G4 H1:=by walk_at "s"
  clear sa b hx hdx xdx ;have ob:=M.ob;have fn:=M.fn;walk_at "p";refine ⟨x,dx,fs,c,q,[],[1],_,[0],1,rfl,M.same (by walk_at "s"),by walk_at "f",by decide,by decide,by decide,by decide,fun H5b sc=>?_⟩;rw [Lf.qai];exact k' _ _ ⟨rfl,by walk_at "s"⟩
 rintro _ H5b ⟨rfl,sd5⟩;have kbad:=sd5.at kbad;have sB:=sB.trans sd5;clear sd5;walk_at "o";refine zbg (fun v H'=>v=.bl false/\Same H5b H') (fun Q' k'=>?_) ?_
 ·walk_at "p";intro x dx hx hdx xdx;refine ⟨x,dx,_,_,[2],[0,0],rfl,zb,qe hx hdx (by walk_at "f"),qe hx hdx (by walk_at "f"),fun fs c q H1 hc hq cq b M=>⟨rfl,?_⟩⟩;have sa:=jl hx hdx b;have sb:Same H5b H1:=by walk_at "s"
  clear sa b hx hdx xdx ;have ob:=M.ob;have fn:=M.fn;walk_at "p";refine ⟨x,dx,fs,c,q,[2],[0,0],_,[0,1,0],2,rfl,M.same (by walk_at "s"),by walk_at "f",by decide,by decide,by decide,by decide,fun H6b sc=>?_⟩;rw [Lf.qap];exact k' _ _ ⟨rfl,by walk_at "s"⟩
 rintro _ H6b ⟨rfl,sd6⟩;have kbad:=sd6.at kbad;have sB:=sB.trans sd6;clear sd6;walk_at "r";intro u7 hu7;walk_at "r";refine zhw (by walk_at "f") (by walk_at "f") (by decide) ?_;intro bad1 hbad1;generalize hG7:upd _ bad1 _=G7;have sg7:Same H6b G7:=by rw [<- hG7];walk_at "s"
 have kbad1:G7 bad1=some (.lst [.bl false,.bl false,.bl false,.bl false,.bl false]):=by rw [<- hG7];exact zb
 have fbad1:H bad1=none:=sB.free (by walk_at "h");have sB:=sB.trans sg7;clear sg7 hG7 hbad1 hu7;walk_at "o";refine zbg (fun v H'=>v=.bl false/\Same G7 H') (fun Q' k'=>?_) ?_
 ·walk_at "r";intro p9 hp9;walk_at "r";intro p10 hp10;walk_at "r";intro x dx hx hdx xdx;refine ⟨x,dx,p10,[p9],[(0,0)],rfl,zb,(PrA.cons (qe hx hdx (by walk_at "f")) (PrA.nil)).prs (qe hx hdx (by walk_at "f")),fun fs pp H1 hpp b M=>⟨rfl,?_⟩⟩;have sa:=jl hx hdx b;have sb:Same G7 H1:=by walk_at "s"
  clear sa b hx hdx xdx hp9 hp10;have ob:=M.ob;have fn:=M.fn;walk_at "p";refine ⟨x,dx,fs,pp,[p9],[(0,0)],_,_,_,[1,2],[1],[2],rfl,M.same (by walk_at "s"),by walk_at "f",by walk_at "f",by walk_at "f",by decide,by decide,by decide,by decide,fun H8b sc=>?_⟩;rw [Lf.qal];exact k' _ _ ⟨rfl,by walk_at "s"⟩
 rintro _ H8b ⟨rfl,sd8⟩;have kbad1:=sd8.at kbad1;have sB:=sB.trans sd8;clear sd8;walk_at "o";refine zbg (fun v H'=>v=.bl false/\Same H8b H') (fun Q' k'=>?_) ?_
 ·walk_at "r";intro p12 hp12;walk_at "r";intro x dx hx hdx xdx;refine ⟨x,dx,p12,[],[],rfl,zb,(PrA.nil).prs (qe hx hdx (by walk_at "f")),fun fs pp H1 hpp b M=>⟨rfl,?_⟩⟩;have sa:=jl hx hdx b;have sb:Same H8b H1:=by walk_at "s"
  clear sa b hx hdx xdx hp12;have ob:=M.ob;have fn:=M.fn;walk_at "p";refine ⟨x,dx,fs,pp,[],[],_,_,_,[3,2],[1],[2],rfl,M.same (by walk_at "s"),by walk_at "f",by walk_at "f",by walk_at "f",by decide,by decide,by decide,by decide,fun H11b sc=>?_⟩;rw [Lf.z94];exact k' _ _ ⟨rfl,by walk_at "s"⟩
 rintro _ H11b ⟨rfl,sd11⟩;have kbad1:=sd11.at kbad1;have sB:=sB.trans sd11;clear sd11;walk_at "r";intro u13 hu13;walk_at "r";refine zhw (by walk_at "f") (by walk_at "f") (by decide) ?_;intro bad2 hbad2;generalize hG13:upd _ bad2 _=G13;have sg13:Same H11b G13:=by rw [<- hG13];walk_at "s"
 have kbad2:G13 bad2=some (.lst [.bl false,.bl false,.bl false,.bl false,.bl false,.bl false,.bl false]):=by rw [<- hG13];exact zb
 have fbad2:H bad2=none:=sB.free (by walk_at "h");have sB:=sB.trans sg13;clear sg13 hG13 hbad2 hu13;walk_at "o";refine zbg (fun v H'=>v=.bl false/\Same G13 H') (fun Q' k'=>?_) ?_
 ·walk_at "p";intro x dx hx hdx xdx;refine ⟨x,dx,_,[0],rfl,zb,qe hx hdx (by walk_at "f"),fun fs pl H1 hpl b M=>⟨rfl,?_⟩⟩;have sa:=jl hx hdx b;have sb:Same G13 H1:=by walk_at "s"
  clear sa b hx hdx xdx ;have ob:=M.ob;have fn:=M.fn;walk_at "p";refine ⟨x,dx,fs,pl,[0],_,_,_,[1,3],[1],[2],rfl,M.same (by walk_at "s"),by walk_at "f",by walk_at "f",by walk_at "f",by decide,by decide,by decide,by decide,fun H14b sc=>?_⟩;rw [Lf.z99];exact k' _ _ ⟨rfl,by walk_at "s"⟩
 rintro _ H14b ⟨rfl,sd14⟩;have kbad2:=sd14.at kbad2;have sB:=sB.trans sd14;clear sd14;walk_at "o";refine zbg (fun v H'=>v=.bl false/\Same H14b H') (fun Q' k'=>?_) ?_
 ·walk_at "r";intro p16 hp16;walk_at "r";intro p17 hp17;walk_at "r";intro p18 hp18;walk_at "r";intro p19 hp19;walk_at "r";intro p20 hp20;walk_at "r";intro x dx hx hdx xdx;refine ⟨x,dx,p16,p17,p20,[p18,p19],[],[],[[0,0],[0,0]],rfl,zb,qe hx hdx (by walk_at "f"),qe hx hdx (by walk_at "f"),(TbA.cons (qe hx hdx (by walk_at "f")) (TbA.cons (qe hx hdx (by walk_at "f")) (TbA.nil))).tab (qe hx hdx (by walk_at "f")),by decide,fun fs m q t ls H1 _ _ _ _ _ _ _ _ b M=>⟨rfl,?_⟩⟩;have sa:=jl hx hdx b;have sb:Same H14b H1:=by walk_at "s"
  clear sa b hx hdx xdx hp16 hp17 hp18 hp19 hp20;have ob:=M.ob;have fn:=M.fn;walk_at "p";refine ⟨x,dx,fs,m,q,t,ls,[],[],[[0,0],[0,0]],_,_,[1],[1],rfl,M.same (by walk_at "s"),by walk_at "f",by walk_at "f",by decide,by decide,by decide,by decide,by decide,by decide,fun H15b sc=>?_⟩;rw [Lf.qaa];exact k' _ _ ⟨rfl,by walk_at "s"⟩
 rintro _ H15b ⟨rfl,sd15⟩;have kbad2:=sd15.at kbad2;have sB:=sB.trans sd15;clear sd15;walk_at "r";intro u21 hu21;walk_at "r";refine zhw (by walk_at "f") (by walk_at "f") (by decide) ?_;intro bad3 hbad3;generalize hG21:upd _ bad3 _=G21;have sg21:Same H15b G21:=by rw [<- hG21];walk_at "s"
 have kbad3:G21 bad3=some (.lst [.bl false,.bl false,.bl false,.bl false,.bl false,.bl false,.bl false,.bl false,.bl false]):=by rw [<- hG21];exact zb
 have fbad3:H bad3=none:=sB.free (by walk_at "h");have sB:=sB.trans sg21;clear sg21 hG21 hbad3 hu21;walk_at "o";refine zbg (fun v H'=>v=.bl false/\Same G21 H') (fun Q' k'=>?_) ?_
 ·walk_at "r";intro p23 hp23;walk_at "r";intro p24 hp24;walk_at "r";intro p25 hp25;walk_at "r";intro x dx hx hdx xdx;refine ⟨x,dx,p25,[p23,p24],[(0,0),((-1),0)],rfl,zb,(PrA.cons (qe hx hdx (by walk_at "f")) (PrA.cons (qe hx hdx (by walk_at "f")) (PrA.nil))).prs (qe hx hdx (by walk_at "f")),fun fs pp H1 hpp b M=>⟨rfl,?_⟩⟩;have sa:=jl hx hdx b;have sb:Same G21 H1:=by walk_at "s"
  clear sa b hx hdx xdx hp23 hp24 hp25;have ob:=M.ob;have fn:=M.fn;walk_at "p";refine ⟨x,dx,fs,pp,[p23,p24],[(0,0),((-1),0)],_,_,_,[3,2],[1],[2],rfl,M.same (by walk_at "s"),by walk_at "f",by walk_at "f",by walk_at "f",by decide,by decide,by decide,by decide,fun H22b sc=>?_⟩;rw [Lf.z8a];exact k' _ _ ⟨rfl,by walk_at "s"⟩
 rintro _ H22b ⟨rfl,sd22⟩;have kbad3:=sd22.at kbad3;have sB:=sB.trans sd22;clear sd22;walk_at "r";refine zpv kbad3 (by decide) ?_;generalize hG26:upd _ bad3 _=G26;have sB:Same H G26:=by rw [<- hG26];exact zch sB fbad3
 have kbad3:G26 bad3=some (.lst [.bl false,.bl false,.bl false,.bl false,.bl false,.bl false,.bl false,.bl false,.bl false,.bl false]):=by rw [<- hG26];exact zb
 clear hG26;walk_at "o";refine zbg (fun v H'=>v=.bl true/\Same G26 H') (fun Q' k'=>?_) ?_
 ·walk_at "r";intro p28 hp28;walk_at "r";intro p29 hp29;walk_at "r";intro p30 hp30;walk_at "r";intro p31 hp31;walk_at "r";intro p32 hp32;walk_at "r";intro p33 hp33;walk_at "r";intro x dx hx hdx xdx;refine ⟨x,dx,p28,p29,p33,[p30,p31,p32],[0],[0],[[0,0],[1,1],[1,1]],rfl,zb,qe hx hdx (by walk_at "f"),qe hx hdx (by walk_at "f"),(TbA.cons (qe hx hdx (by walk_at "f")) (TbA.cons (qe hx hdx (by walk_at "f")) (TbA.cons (qe hx hdx (by walk_at "f")) (TbA.nil)))).tab (qe hx hdx (by walk_at "f")),by decide,fun fs m q t ls H1 _ _ _ _ _ _ _ _ b M=>⟨rfl,?_⟩⟩;have sa:=jl hx hdx b;have sb:Same G26 H1:=by walk_at "s"
  clear sa b hx hdx xdx hp28 hp29 hp30 hp31 hp32 hp33;have ob:=M.ob;have fn:=M.fn;walk_at "p";refine ⟨x,dx,fs,m,q,t,ls,[0],[0],[[0,0],[1,1],[1,1]],_,_,[1,2],[1],rfl,M.same (by walk_at "s"),by walk_at "f",by walk_at "f",by decide,by decide,by decide,by decide,by decide,by decide,fun H27b sc=>?_⟩;rw [Lf.zx9];exact k' _ _ ⟨rfl,by walk_at "s"⟩
 rintro _ H27b ⟨rfl,sd27⟩;have kbad3:=sd27.at kbad3;have sB:=sB.trans sd27;clear sd27;walk_at "r";intro good hgood;generalize hG34:upd _ good _=G34;have sg34:Same H27b G34:=by rw [<- hG34];walk_at "s"
 have kgood:G34 good=some (.lst [.bl true]):=by rw [<- hG34];exact zb
 have fgood:H good=none:=sB.free (by walk_at "h");have kbad3:=sg34.at kbad3;have sB:=sB.trans sg34;clear sg34 hG34 hgood;walk_at "o";refine zbg (fun v H'=>v=.bl true/\Same G34 H') (fun Q' k'=>?_) ?_
 ·walk_at "p";intro x dx hx hdx xdx;refine ⟨x,dx,_,[0],rfl,zb,qe hx hdx (by walk_at "f"),fun pl H1 hpl b o q=>⟨rfl,?_⟩⟩;have sa:=jl hx hdx b;have sb:Same G34 H1:=by walk_at "s"
  clear sa b hx hdx xdx ;walk_at "p";refine ⟨x,dx,pl,_,_,[0],[1,1],[1,2],rfl,by walk_at "f",by walk_at "f",by walk_at "f",by walk_at "f",by decide,by decide,by decide,fun H35b sc=>?_⟩;rw [Lf.good2];exact k' _ _ ⟨rfl,by walk_at "s"⟩
 rintro _ H35b ⟨rfl,sd35⟩;have kbad3:=sd35.at kbad3;have kgood:=sd35.at kgood;have sB:=sB.trans sd35;clear sd35;walk_at "o";refine zbg (fun v H'=>v=.bl true/\Same H35b H') (fun Q' k'=>?_) ?_
 ·walk_at "p";intro x dx hx hdx xdx;refine ⟨x,dx,_,_,[2],[1,1],rfl,zb,qe hx hdx (by walk_at "f"),qe hx hdx (by walk_at "f"),fun fs c q H1 hc hq cq b M=>⟨rfl,?_⟩⟩;have sa:=jl hx hdx b;have sb:Same H35b H1:=by walk_at "s"
  clear sa b hx hdx xdx ;have ob:=M.ob;have fn:=M.fn;walk_at "p";refine ⟨x,dx,fs,c,q,[2],[1,1],_,[0,1,0],2,rfl,M.same (by walk_at "s"),by walk_at "f",by decide,by decide,by decide,by decide,fun H36b sc=>?_⟩;rw [Lf.good3];exact k' _ _ ⟨rfl,by walk_at "s"⟩
 rintro _ H36b ⟨rfl,sd36⟩;have kbad3:=sd36.at kbad3;have kgood:=sd36.at kgood;have sB:=sB.trans sd36;clear sd36;walk_at "o";refine zbg (fun v H'=>v=.bl true/\Same H36b H') (fun Q' k'=>?_) ?_
 ·walk_at "p";intro x dx hx hdx xdx;refine ⟨x,dx,_,[],rfl,zb,qe hx hdx (by walk_at "f"),fun pl H1 hpl b o q=>⟨rfl,?_⟩⟩;have sa:=jl hx hdx b;have sb:Same H36b H1:=by walk_at "s"
  clear sa b hx hdx xdx ;walk_at "p";refine ⟨x,dx,pl,_,_,[],[],[5],rfl,by walk_at "f",by walk_at "f",by walk_at "f",by walk_at "f",by decide,by decide,by decide,fun H37b sc=>?_⟩;rw [Lf.z7t];exact k' _ _ ⟨rfl,by walk_at "s"⟩
 rintro _ H37b ⟨rfl,sd37⟩;have kbad3:=sd37.at kbad3;have kgood:=sd37.at kgood;have sB:=sB.trans sd37;clear sd37;walk_at "r";intro u38 hu38;walk_at "r";refine zhw (by walk_at "f") (by walk_at "f") (by decide) ?_;intro zx9 hgood1;generalize hG38:upd _ zx9 _=G38;have sg38:Same H37b G38:=by rw [<- hG38];walk_at "s"
 have kgood1:G38 zx9=some (.lst [.bl true,.bl true,.bl true,.bl true]):=by rw [<- hG38];exact zb
 have fgood1:H zx9=none:=sB.free (by walk_at "h");have kbad3:=sg38.at kbad3;have sB:=sB.trans sg38;clear sg38 hG38 hgood1 hu38;walk_at "o";refine zbg (fun v H'=>v=.bl true/\Same G38 H') (fun Q' k'=>?_) ?_
 ·walk_at "r";intro p40 hp40;walk_at "r";intro p41 hp41;walk_at "r";intro x dx hx hdx xdx;refine ⟨x,dx,p41,[p40],[(0,0)],rfl,zb,(PrA.cons (qe hx hdx (by walk_at "f")) (PrA.nil)).prs (qe hx hdx (by walk_at "f")),fun fs pp H1 hpp b M=>⟨rfl,?_⟩⟩;have sa:=jl hx hdx b;have sb:Same G38 H1:=by walk_at "s"
  clear sa b hx hdx xdx hp40 hp41;have ob:=M.ob;have fn:=M.fn;walk_at "p";refine ⟨x,dx,fs,pp,[p40],[(0,0)],_,_,_,[3,2],[1],[2],rfl,M.same (by walk_at "s"),by walk_at "f",by walk_at "f",by walk_at "f",by decide,by decide,by decide,by decide,fun H39b sc=>?_⟩;rw [Lf.z7m];exact k' _ _ ⟨rfl,by walk_at "s"⟩
 rintro _ H39b ⟨rfl,sd39⟩;have kbad3:=sd39.at kbad3;have kgood1:=sd39.at kgood1;have sB:=sB.trans sd39;clear sd39;walk_at "o";refine zbg (fun v H'=>v=.bl true/\Same H39b H') (fun Q' k'=>?_) ?_
 ·walk_at "r";intro p43 hp43;walk_at "r";intro p44 hp44;walk_at "r";intro p45 hp45;walk_at "r";intro p46 hp46;walk_at "r";intro x dx hx hdx xdx;refine ⟨x,dx,p43,p44,p46,[p45],[],[],[[0]],rfl,zb,qe hx hdx (by walk_at "f"),qe hx hdx (by walk_at "f"),(TbA.cons (qe hx hdx (by walk_at "f")) (TbA.nil)).tab (qe hx hdx (by walk_at "f")),by decide,fun fs m q t ls H1 _ _ _ _ _ _ _ _ b M=>⟨rfl,?_⟩⟩;have sa:=jl hx hdx b;have sb:Same H39b H1:=by walk_at "s"
  clear sa b hx hdx xdx hp43 hp44 hp45 hp46;have ob:=M.ob;have fn:=M.fn;walk_at "p";refine ⟨x,dx,fs,m,q,t,ls,[],[],[[0]],_,_,[],[],rfl,M.same (by walk_at "s"),by walk_at "f",by walk_at "f",by decide,by decide,by decide,by decide,by decide,by decide,fun H42b sc=>?_⟩;rw [Lf.z7p];exact k' _ _ ⟨rfl,by walk_at "s"⟩
 rintro _ H42b ⟨rfl,sd42⟩;have kbad3:=sd42.at kbad3;have kgood1:=sd42.at kgood1;have sB:=sB.trans sd42;clear sd42;walk_at "r";intro u47 hu47;walk_at "r";refine zhw (by walk_at "f") (by walk_at "f") (by decide) ?_;intro good2 hgood2;generalize hG47:upd _ good2 _=G47;have sg47:Same H42b G47:=by rw [<- hG47];walk_at "s"
 have kgood2:G47 good2=some (.lst [.bl true,.bl true,.bl true,.bl true,.bl true,.bl true]):=by rw [<- hG47];exact zb
 have fgood2:H good2=none:=sB.free (by walk_at "h");have kbad3:=sg47.at kbad3;have sB:=sB.trans sg47;clear sg47 hG47 hgood2 hu47;walk_at "r";refine comp_map (zac (xs:=[V.bl true,V.bl true,V.bl true,V.bl true,V.bl true,V.bl true])) (fun _=>.bl true) (fun H' s'=>SqL.of (s'.at kgood2)) (by decide) ?_ ?_
 ·rintro i v y H1 H2 R R' hi s1 ⟨rfl,rfl⟩ h1;have hv:y=.bl true:=by
   have:=List.mem_of_getElem? hi;simpa using this
  subst hv;walk_at "r";refine ⟨⟨rfl,rfl⟩,?_⟩;walk_at "r";refine ⟨_,_,rfl,?_⟩;exact h1 _ (Same.refl _)
 intro D1 H1 hD1 s1 hd1;have kbad3:=s1.at kbad3;have sB:=sB.trans s1;walk_at "r";refine z1t (SqL.of hd1) (fun _ _=>rfl) ?_;walk_at "r";refine comp_map (zac (xs:=[V.bl false,V.bl false,V.bl false,V.bl false,V.bl false,V.bl false,V.bl false,V.bl false,V.bl false,V.bl false])) (fun _=>.bl true) (fun H' s'=>SqL.of (s'.at kbad3)) (by decide) ?_ ?_
 ·rintro i v y H3 H2 R R' hi s3 ⟨rfl,rfl⟩ h1;have hv:y=.bl false:=by
   have:=List.mem_of_getElem? hi;simpa using this
  subst hv;walk_at "r";refine ⟨⟨rfl,rfl⟩,?_⟩;walk_at "r";refine ⟨_,_,rfl,?_⟩;exact h1 _ (Same.refl _)
 intro D2 H2 hD2 s2 hd2;walk_at "r";refine z1t (SqL.of hd2) (fun _ _=>rfl) ?_;walk_at "r";exact k _ (sB.trans s2)
noncomputable abbrev zqk:=bd 64
noncomputable abbrev z6d:List Str:=["_law_script","_law_one","_law_other","_law_row_here","_law_some"]
noncomputable abbrev ztj:List Str:=["_law_script"]
theorem z2d:z7 z6d ztj (zq zqk):=by walk_at "a"
noncomputable def zsl (K:PySem.W.Frag):Sp:=fun vs H Q _=>∃ (a:Addr) (ns:List Int),vs=[.ref a]/\SqL K H a (ns.map V.int)/\ns.length<=63/\∀ H',Q (.bl true) H'
theorem z54 (F:Fun K "law" "law" zqk f fd) (T:Blt mg)
  (zk7:Cal K mg "_law_row" f1 fd1 zfi) (zk2:qm P w K mg base CX0 1 f1 fd1 zfi (zm2 K))
  (zcz:Cal K mg "_law_few_right" f2 fd2 zaj) (zmi:qm P w K mg base CX0 9 f2 fd2 zaj ze6)
  (zd5:Cal K mg "_law_places_right" f3 fd3 yx) (zed:qm P w K mg base CX0 9 f3 fd3 yx (zdc K))
  (zjr:Cal K mg "_law_tables_right" f4 fd4 wj) (zi8:qm P w K mg base CX0 10 f4 fd4 wj (zde K))
  (zif:Cal K mg "_law_missing_right" f5 fd5 yt) (zig:qm P w K mg base CX0 9 f5 fd5 yt (zcn K))
  (zep:Cal K mg "_law_mixed_right" f6 fd6 uc) (zek:qm P w K mg base CX0 9 f6 fd6 uc (zdo K))
  : qm P w K mg base CX0 11 f fd ztj (zsl K):=by
 refine F.ok z2d (fun vs H Q E h=>by obtain ⟨_,_,rfl,_⟩:=h;rfl) fun cdv A outer s H vs Q E hr h=>?_;obtain ⟨a,ns,rfl,ha,hn,k⟩:=h;have nd:=z2d.nd;have hu:=hr.units;refine ⟨_,(za (z11 (i:=1) (j:=2) rfl nd rfl rfl (by decide) rfl rfl (a2 (fcl zk2 hr zk7 (a2 (zbt (pv 0) q9 q9 zc) (jk (zkj rfl) rfl T.no_sum boot_sum (a1 (pv 0))))) (fcl zk2 hr zk7 (a2 (zbt (pv 0) (j4 zc) q9 zc) (jk (zkj rfl) rfl T.no_sum boot_sum (a1 (pv 0)))))) (by with_unfolding_all rfl))
  (za (sv 3 nd (fcl zk2 hr zk7 (a2 (pv 0) (jk (zkj rfl) rfl T.no_sum boot_sum (a1 (pv 0))))))
  (za (pif (PW.pt (zc6 (yj (j5 (zz8 zmi (hr.mono (by decide)) rfl zcz.mg zcz.kp zcz.b .nil zb9))) (zc6 (yj (j5 (fcl zed hr zd5 (a3 (pv 3) (pv 2) (pv 0))))) (zbd (yj (j5 (fcl zed hr zd5 (a3 (pv 1) (pv 2) (pv 0))))))))))
  (za (pif (yj (j5 (fcl zi8 hr zjr (a3 (ju yo (pv 1) q9 (j4 zc)) (ju yo (pv 2) q9 (j4 zc)) (pv 0))))))
  (za (pif (yj (j5 (fcl zig hr zif (a2 (pcm (N:=["_law_cell"]) (caps:=[]) (qb (pv 0)) (fun _ _ _ _=>⟨_,(z9 zcb (pv 0) zc),by walk_at "c"⟩)) (pv 0))))))
  (za (vq PassesOwn.never rfl (qb (zr (zm (pv 3) (zm (zbt (pv 3) q9 q9 (zdh zao zc)) (zm (z9 z8 (ju yo (pv 3) (j4 zc) q9) (ju yo (pv 3) q9 (j4 zc))) (zm (pcm (N:=["_law_sign"]) (caps:=[]) (qb (pv 3)) (fun _ _ _ _=>⟨_,(z9 z8 (pv 0) zc),by walk_at "c"⟩)) qu)))))) (gv 4 nd) (zp (pif (yj (j5 (fcl zek hr zep (zm (pv 4) (zm (pv 1) (zm (pv 2) (zm (pv 0) qu))))))))))
  (zp (qx (fcl zek hr zep (zm (z9 z8 (pv 1) (pv 2)) (zm (pv 1) (zm (pv 2) (zm (pv 0) qu))))))))))))),?_⟩
 try simp only [ck1,ck2]
 rw [show L2.start z6d [V.ref a]=[some (V.ref a),none,none,none,none] from rfl];walk_at "r";intro e1 he1;walk_at "r";have ev:=zpd ns;refine ⟨e1,_,_,rfl,by walk_at "f",by lia,fun r H1 hr1 s1 h1=>?_⟩;have l1:=Lf.zqz (zcp ns) ns.sum;generalize Lf.z10 (zcp ns) ns.sum=one at h1 l1;walk_at "r";intro e2 he2;walk_at "r";refine ⟨e2,_,_,rfl,by walk_at "f",by lia,fun r2 H2 hr2 s2 h2=>?_⟩;have l2:=Lf.zqz (zcp ns.tail) ns.sum;generalize Lf.z10 (zcp ns.tail) ns.sum=other at h2 l2;have h12:H2 r=some (.lst (one.map V.int)):=by walk_at "f"
 have ha2:SqL K H2 a (ns.map V.int):=by walk_at "f"
 clear s1 s2 he1 he2 hr1 hr2 h1;walk_at "r";refine ⟨a,ns,_,rfl,ha2,by lia,fun r3 H3 hr3 s3 h3=>?_⟩;have l3:=Lf.zqz ns ns.sum;generalize Lf.z10 ns ns.sum=row at h3 l3;have h13:=s3.at h12;have h23:=s3.at h2;have ha3:=s3.seq ha2;clear s3 h12 h2 ha2 hr3;walk_at "r";refine ⟨rfl,fun H4 s4=>?_⟩;have h14:=s4.at h13;have h24:=s4.at h23;have h34:=s4.at h3;have ha4:=s4.seq ha3;clear s4 h13 h23 h3 ha3;walk_at "r";refine ⟨r3,r2,a,row,other,ns,rfl,h34,h24,ha4,by lia,by lia,hn,fun H5 s5=>?_⟩;have h15:=s5.at h14;have h25:=s5.at h24;have h35:=s5.at h34;have ha5:=s5.seq ha4;clear s5 h14 h24 h34 ha4;walk_at "r";refine ⟨r,r2,a,one,other,ns,rfl,h15,h25,ha5,by lia,by lia,hn,fun H6 s6=>?_⟩;have h16:=s6.at h15;have h26:=s6.at h25;have h36:=s6.at h35;have ha6:=s6.seq ha5;clear s6 h15 h25 h35 ha5;walk_at "r";intro u1 hu1;walk_at "r";intro u2 hu2;walk_at "r";refine ⟨u1,u2,a,_,_,ns,rfl,by walk_at "f",by walk_at "f",by walk_at "f",by rw [List.length_take];lia,by rw [List.length_take];lia,hn,fun H7 s7=>?_⟩;have h17:H7 r=some (.lst (one.map V.int)):=by walk_at "f"
 have h27:H7 r2=some (.lst (other.map V.int)):=by walk_at "f"
 have h37:H7 r3=some (.lst (row.map V.int)):=by walk_at "f"
 have ha7:SqL K H7 a (ns.map V.int):=by walk_at "f"
 clear s7 h16 h26 h36 ha6 hu1 hu2;walk_at "r";refine zbf (wz (ns:=ns)) (fun z=>z%3) (fun H' s'=>s'.seq ha7) (by lia) ?_ ?_
 ·rintro i z x' H8 H9 R R' hi s8 ⟨rfl,rfl⟩ h1;walk_at "r";refine ⟨⟨rfl,rfl⟩,?_⟩;walk_at "r";exact h1 _ (Same.refl _)
 intro D1 H8 hD1 s8 hd1;have h18:=s8.at h17;have h28:=s8.at h27;have h38:=s8.at h37;have ha8:=s8.seq ha7;clear s8 h17 h27 h37 ha7 hD1;walk_at "r";refine ⟨D1,a,_,ns,rfl,hd1,ha8,by rw [List.length_map];lia,hn,fun H9 s9=>?_⟩;have h19:=s9.at h18;have h29:=s9.at h28;have h39:=s9.at h38;have ha9:=s9.seq ha8;clear s9 h18 h28 h38 ha8 hd1;walk_at "r";intro v1 hv1;walk_at "r";intro v2 hv2;walk_at "r";intro v3 hv3;refine zi1 (by walk_at "f") (by walk_at "f") (by simp;lia) ?_;intro v4 hv4;generalize hH10:upd _ v4 _=H10;have s10:Same H9 H10:=by rw [<- hH10];walk_at "s"
 have hv110:H10 v1=some (.lst (row.reverse.map V.int)):=by rw [<- hH10];walk_at "f"
 have hv410:H10 v4=some (.lst ((row.drop (1:Int).toNat++row.take (1:Int).toNat).map V.int)):=by rw [<- hH10];walk_at "f"
 have h110:=s10.at h19;have h210:=s10.at h29;have h310:=s10.at h39;have ha10:=s10.seq ha9;clear hH10 s10 hv1 hv2 hv3 hv4 h19 h29 h39 ha9;walk_at "r";refine zbf (wz (ns:=row)) (fun z=>z+1) (fun H' s'=>SqL.of (s'.at h310)) (by lia) ?_ ?_
 ·rintro i z x' H11 H12 R R' hi s11 ⟨rfl,rfl⟩ h1;walk_at "r";refine ⟨⟨rfl,rfl⟩,?_⟩;walk_at "r";exact h1 _ (Same.refl _)
 intro D2 H11 hD2 s11 hd2;walk_at "r";intro g hg;generalize hH12:upd _ g (HO.lst [V.ref r3,V.ref v1,V.ref v4,V.ref D2])=H12;have s1112:Same H11 H12:=by rw [<- hH12];walk_at "s"
 have hg12:H12 g=some (.lst [V.ref r3,V.ref v1,V.ref v4,V.ref D2]):=by rw [<- hH12];walk_at "f"
 have s12:=s11.trans s1112;have h112:=s12.at h110;have h212:=s12.at h210;have ha12:=s12.seq ha10;have all12:∀ v∈[V.ref r3,V.ref v1,V.ref v4,V.ref D2],∃ (d:Addr) (L:List Int),v=.ref d/\H12 d=some (.lst (L.map V.int))/\L.length=one.length+other.length:=by
  intro v hv;simp only [List.mem_cons,List.mem_nil_iff,or_false] at hv;rcases hv with rfl|rfl|rfl|rfl
  ·exact ⟨r3,row,rfl,s12.at h310,by lia⟩
  ·exact ⟨v1,_,rfl,s12.at hv110,by rw [List.length_reverse];lia⟩
  ·exact ⟨v4,_,rfl,s12.at hv410,by simp;lia⟩
  ·exact ⟨D2,_,rfl,s1112.at hd2,by rw [List.length_map];lia⟩
 clear hH12 hg hd2 hD2 s11 s1112 hv110 hv410 h110 h210 h310 ha10 s12;walk_at "r";refine vf (zac (xs:=[V.ref r3,V.ref v1,V.ref v4,V.ref D2])) (fun i σ H13=>∃ v5:Option V,σ=[some (.ref a),some (.ref r),some (.ref r2),some (.ref r3),v5]/\Same H12 H13) ?_ ?_ ?_ ?_
 ·exact ⟨_,rfl,Same.refl _⟩
 ·rintro i σ H13 _ ⟨_,_,s13⟩;exact SqL.of (s13.at hg12)
 ·rintro i v y σ H13' H13 hy ⟨v5,rfl,s13⟩ ⟨rfl,rfl⟩;obtain ⟨d,L,rfl,hd,hL⟩:=all12 _ (List.mem_of_getElem? hy);walk_at "r";refine ⟨d,r,r2,a,L,one,other,ns,rfl,s13.at hd,s13.at h112,s13.at h212,s13.seq ha12,by lia,by lia,by lia,hL,hn,fun H14 s14=>?_⟩;walk_at "r";exact ⟨_,rfl,s13.trans s14⟩
 rintro σ H13 ⟨v5,rfl,s13⟩;have h113:=s13.at h112;have h213:=s13.at h212;have ha13:=s13.seq ha12;clear s13 all12 hg12 h112 h212 ha12;walk_at "r";refine zi1 (by walk_at "f") (by walk_at "f") (by lia) ?_;intro w1 hw1;walk_at "r";refine ⟨w1,r,r2,a,_,one,other,ns,rfl,by walk_at "f",by walk_at "f",by walk_at "f",by walk_at "f",by rw [List.length_append];lia,by lia,by lia,by rw [List.length_append],hn,fun H14 s14=>?_⟩;walk_at "r";exact k _
local macro_rules|`(tactic| walk_at "b")=>`(tactic| (intro _ _ _ _ _ _ us e;first|(cases us0 e;exact rfl)|(obtain ⟨_,h⟩:=us1 e;subst h;exact rfl)|(obtain ⟨_,_,h⟩:=us2 e;subst h;exact rfl)|(obtain ⟨_,_,_,h⟩:=us3 e;subst h;exact rfl)|(obtain ⟨_,_,_,_,h⟩:=us4 e;subst h;exact rfl)|(obtain ⟨_,_,_,_,_,h⟩:=us5 e;subst h;exact rfl)))
noncomputable def zee (K:PySem.W.Frag) (x:Str) (st:Stmt) (f:Addr):Prop:=∃ fd:FuncData,Fun K x x st f fd/\PySem.W.nsIn K mainGlobals x=some (some (.ref f))
noncomputable def ztn (K:PySem.W.Frag) (C:Addr) (x q:Str) (st:Stmt) (f:Addr):Prop:=∃ fd:FuncData,Fun K x q st f fd/\PySem.W.findIn K (.ref C) x=some (some (.ref f))/\PySem.W.isFn K (.ref f)=true
structure zz5 (K:PySem.W.Frag) (x:Str) (C:Addr):Prop where
 a:PySem.W.nsIn K mainGlobals x=some (some (.ref C))
 m:PySem.W.makesIn K C=true
 k:PySem.W.keepIn K (.ref C)=true
 i:Ins K C
section
variable {K:PySem.W.Frag}{x q:Str}{st:Stmt}{f C:Addr}{oc:Value}{od an:Option Addr}{osl:Array (Option Value)}{kV doc pm cdv ct:Value}{fd:FuncData}{ps:List Str}{h:Heap}{mg:Str->Option Value}
theorem z7k (a:PySem.W.nsIn K mainGlobals x=some (some (.ref f))) (l:K.lookup f=some ⟨oc,od,.func (PySem.W.fnOf x x (zfs st) (zew st) (zq st) .none kV doc pm an cdv ct),osl⟩) (c:PySem.W.codeIn K cdv x=true) (k:PySem.W.keepIn K (.ref f)=true):zee K x st f:=⟨_,zxt l c k,a⟩
theorem z8q (a:PySem.W.findIn K (.ref C) x=some (some (.ref f))) (l:K.lookup f=some ⟨oc,od,.func (PySem.W.fnOf x q (zfs st) (zew st) (zq st) .none kV doc pm an cdv ct),osl⟩) (c:PySem.W.codeIn K cdv q=true) (k:PySem.W.keepIn K (.ref f)=true) (i:PySem.W.isFn K (.ref f)=true):ztn K C x q st f:=⟨_,zxt l c k,a,i⟩
theorem z8w (a:PySem.W.nsIn K mainGlobals x=some (some (.ref C))) (m:PySem.W.makesIn K C=true) (k:PySem.W.keepIn K (.ref C)=true) (pg:PySem.W.plainGet K C Str.empty=true) (hd:PySem.W.hasDictIn K C=true) (po:PySem.W.plainOver K C=true) (sa:PySem.W.findIn K (.ref C) "__setattr__"=some (some (.builtin "object.__setattr__")))
  (u:PySem.W.findIn K (.ref C) "__class__"=some (some (.builtin "object.__class__"))) (sn:PySem.W.specialIn K (.builtin "object.__class__") "__get__"=some (some (.builtin "getset_descriptor.__get__"))) (ht:PySem.W.takesIn K (.builtin "object.__class__")=some true) (v:PySem.W.mroIn K C (.type "object")=some true):zz5 K x C:=⟨a,m,k,⟨⟨pg,hd,po,sa⟩,u,sn,ht,v⟩⟩
noncomputable abbrev Bd (x q:Str) (st:Stmt) (ps:List Str):Prop:=∀ (kV doc pm:Value) (an:Option Addr) (cdv ct:Value) (us:List Value),us.length=ps.length->bindArgs (PySem.W.fnOf x q (zfs st) (zew st) (zq st) .none kV doc pm an cdv ct) ⟨us,[]⟩=pure (ps.zip us)
theorem jr (X:K.In h) (G:h.Ns mainGlobals mg) (F:Fun K x x st f fd) (a:PySem.W.nsIn K mainGlobals x=some (some (.ref f))) (b:Bd x x st ps):Cal K mg x f fd ps:=⟨PySem.W.mg_of X G a,F.kp,F.binds b⟩
theorem znh (F:Fun K x q st f fd) (a:PySem.W.findIn K (.ref C) x=some (some (.ref f))/\PySem.W.isFn K (.ref f)=true) (b:Bd x q st ps):Met K C x f fd ps:=⟨⟨a.1,a.2,F.kp⟩,F.binds b⟩
theorem znr {n:Str} (X:K.In h) (G:h.Ns mainGlobals mg) (c:zz5 K n C) (F:Fun K "__init__" q st f fd) (a:PySem.W.findIn K (.ref C) "__init__"=some (some (.ref f))/\PySem.W.isFn K (.ref f)=true) (b:Bd "__init__" q st ps):Mak K mg n C f fd ps:=⟨PySem.W.mg_of X G c.a,⟨c.m,a.1,a.2,c.k⟩,c.i.cl,F.binds b⟩
end
theorem all_mk {l:PySem.W.OpenLaw}{w:World}{K:PySem.W.Frag}{h:Heap}{mg:Str->Option Value}{fa:Addr} (X:K.In h) (G:h.Ns mainGlobals mg) (hfa:mg "law"=some (.ref fa)) {fL:Addr}{od an:Option Addr}{sl:Array (Option Value)}{oc kV dc pm cd ct:Value}
  {k0:Addr} (u0:zz5 K "Left" k0)
  {k1:Addr} (u1:zz5 K "Short" k1)
  {k2:Addr} (u2:zz5 K "Longest" k2)
  {k3:Addr} (u3:zz5 K "Both" k3)
  {k4:Addr} (u4:zz5 K "Missing" k4)
  {k5:Addr} (u5:zz5 K "Mixed" k5)
  {k6:Addr} (u6:zz5 K "Unmixed" k6)
  (n0_places:PySem.W.findIn K (.ref k0) "places"=some none)
  (n1_places:PySem.W.findIn K (.ref k1) "places"=some none)
  (n2_mine:PySem.W.findIn K (.ref k2) "mine"=some none)
  (n2_theirs:PySem.W.findIn K (.ref k2) "theirs"=some none)
  (n2_table:PySem.W.findIn K (.ref k2) "table"=some none)
  (n3_row:PySem.W.findIn K (.ref k3) "row"=some none)
  (n3_mine:PySem.W.findIn K (.ref k3) "mine"=some none)
  (n3_theirs:PySem.W.findIn K (.ref k3) "theirs"=some none)
  (n3_table:PySem.W.findIn K (.ref k3) "table"=some none)
  (n4_cuts:PySem.W.findIn K (.ref k4) "cuts"=some none)
  (n4_word:PySem.W.findIn K (.ref k4) "word"=some none)
  (n5_places:PySem.W.findIn K (.ref k5) "places"=some none)
  (i5_5:PySem.W.kitOne K (.ref k5) (.ref k5)=some true)
  (i5_6:PySem.W.kitOne K (.ref k5) (.ref k6)=some false)
  (n6_pairs:PySem.W.findIn K (.ref k6) "pairs"=some none)
  (i6_5:PySem.W.kitOne K (.ref k6) (.ref k5)=some false)
  (i6_6:PySem.W.kitOne K (.ref k6) (.ref k6)=some true)
  {f0:Addr} (h0:zee K "is_whole" zlk f0)
  {f1:Addr} (h1:zee K "is_count" zlm f1)
  {f2:Addr} (h2:zee K "is_row" zqe f2)
  {f3:Addr} (h3:zee K "checked_row" zf2 f3)
  {f4:Addr} (h4:zee K "are_places" zg0 f4)
  {f5:Addr} (h5:zee K "signs_at" zk9 f5)
  {f6:Addr} (h6:zee K "stands_at" zjt f6)
  {f7:Addr} (h7:zee K "earliest_places" zce f7)
  {f8:Addr} (h8:zee K "is_left" zoe f8)
  {f9:Addr} (h9:ztn K k0 "__init__" "Left.__init__" zea f9)
  {f10:Addr} (h10:ztn K k1 "__init__" "Short.__init__" zcy f10)
  {f11:Addr} (h11:ztn K k0 "shows" "Left.shows" zh0 f11)
  {f12:Addr} (h12:ztn K k1 "shows" "Short.shows" zfr f12)
  {f13:Addr} (h13:zee K "left" zxn f13)
  {f14:Addr} (h14:zee K "bound" zt9 f14)
  {f15:Addr} (h15:zee K "has_lengths" zfw f15)
  {f16:Addr} (h16:zee K "is_table" zk3 f16)
  {f17:Addr} (h17:zee K "least_table" zf0 f17)
  {f18:Addr} (h18:zee K "alike_pairs" zf8 f18)
  {f19:Addr} (h19:ztn K k2 "__init__" "Longest.__init__" zby f19)
  {f20:Addr} (h20:ztn K k2 "shows" "Longest.shows" zd7 f20)
  {f21:Addr} (h21:zee K "longest" zna f21)
  {f22:Addr} (h22:ztn K k3 "__init__" "Both.__init__" zd0 f22)
  {f23:Addr} (h23:ztn K k3 "shows" "Both.shows" zhk f23)
  {f24:Addr} (h24:zee K "put_behind" zh1 f24)
  {f25:Addr} (h25:zee K "shortest" zlg f25)
  {f26:Addr} (h26:zee K "has_all_kinds" yw f26)
  {f27:Addr} (h27:zee K "are_cuts" zk4 f27)
  {f28:Addr} (h28:zee K "least_unseen" zci f28)
  {f29:Addr} (h29:ztn K k4 "__init__" "Missing.__init__" zb0 f29)
  {f30:Addr} (h30:ztn K k4 "shows" "Missing.shows" zdz f30)
  {f31:Addr} (h31:zee K "missing" zku f31)
  {f32:Addr} (h32:zee K "are_counts" zhd f32)
  {f33:Addr} (h33:zee K "pairs_after" zf1 f33)
  {f34:Addr} (h34:zee K "is_followed" zdm f34)
  {f35:Addr} (h35:zee K "pairs_reached" zb4 f35)
  {f36:Addr} (h36:zee K "places_on_way" zbw f36)
  {f37:Addr} (h37:ztn K k5 "__init__" "Mixed.__init__" zc1 f37)
  {f38:Addr} (h38:ztn K k6 "__init__" "Unmixed.__init__" zbv f38)
  {f39:Addr} (h39:ztn K k5 "shows" "Mixed.shows" zdg f39)
  {f40:Addr} (h40:ztn K k6 "shows" "Unmixed.shows" zbu f40)
  {f41:Addr} (h41:zee K "mixed" zrb f41)
  {f42:Addr} (h42:zee K "_law_row" zls f42)
  {f43:Addr} (h43:zee K "_law_stands" zfo f43)
  {f44:Addr} (h44:zee K "_law_is_left" ze0 f44)
  {f45:Addr} (h45:zee K "_law_short" zh2 f45)
  {f46:Addr} (h46:zee K "_law_table" zgy f46)
  {f47:Addr} (h47:zee K "_law_long" zi9 f47)
  {f48:Addr} (h48:zee K "_law_missed" zad f48)
  {f49:Addr} (h49:zee K "_law_is_mixed" zd6 f49)
  {f50:Addr} (h50:zee K "_law_unmixed" zcj f50)
  {f51:Addr} (h51:zee K "_law_says" zjm f51)
  {f52:Addr} (h52:zee K "_law_bent" zjh f52)
  {f53:Addr} (h53:zee K "_law_places_right" zbm f53)
  {f54:Addr} (h54:zee K "_law_rows_right" zcf f54)
  {f55:Addr} (h55:zee K "_law_tables_right" zbn f55)
  {f56:Addr} (h56:zee K "_law_missing_right" za9 f56)
  {f57:Addr} (h57:zee K "_law_mixed_right" zbz f57)
  {f58:Addr} (h58:zee K "_law_few_right" zc3 f58)
  (aL:PySem.W.nsIn K mainGlobals "law"=some (some (.ref fL)))
  (lL:K.lookup fL=some ⟨oc,od,.func (PySem.W.fnOf "law" "law" (zfs zqk) (zew zqk) (zq zqk) .none kV dc pm an cd ct),sl⟩)
  (cL:PySem.W.codeIn K cd "law"=true)
  (hL:PySem.W.keepIn K (.ref fL)=true)
  (z_len:PySem.W.nsIn K mainGlobals "len"=some none)
  (z_zip:PySem.W.nsIn K mainGlobals "zip"=some none)
  (z_enumerate:PySem.W.nsIn K mainGlobals "enumerate"=some none)
  (z_range:PySem.W.nsIn K mainGlobals "range"=some none)
  (z_list:PySem.W.nsIn K mainGlobals "list"=some none)
  (z_int:PySem.W.nsIn K mainGlobals "int"=some none)
  (z_bool:PySem.W.nsIn K mainGlobals "bool"=some none)
  (z_tuple:PySem.W.nsIn K mainGlobals "tuple"=some none)
  (z_set:PySem.W.nsIn K mainGlobals "set"=some none)
  (z_all:PySem.W.nsIn K mainGlobals "all"=some none)
  (z_any:PySem.W.nsIn K mainGlobals "any"=some none)
  (z_sum:PySem.W.nsIn K mainGlobals "sum"=some none)
  (z_min:PySem.W.nsIn K mainGlobals "min"=some none)
  (z_max:PySem.W.nsIn K mainGlobals "max"=some none)
  (z_sorted:PySem.W.nsIn K mainGlobals "sorted"=some none)
  (z_isinstance:PySem.W.nsIn K mainGlobals "isinstance"=some none)
  (z_dict:PySem.W.nsIn K mainGlobals "dict"=some none)
  : ∃ fd:FuncData,(∀ (s:Shared) (v:Value),BindsTo s fd ⟨[v],[]⟩ [(ztj.headD "",v)])/\∀ base:Heap,K.In base->base.Ns mainGlobals mg->qm l.prog w K mg base CX0 11 fa fd ztj (zsl K):=by
 cases hfa.symm.trans (PySem.W.mg_of X G aL)
 have N:∀ {x:Str},PySem.W.nsIn K mainGlobals x=some none->mg x=none:=PySem.W.mg_none_of X G;have T:Blt mg:=⟨N z_len,N z_zip,N z_enumerate,N z_range,N z_list,N z_int,N z_bool,N z_tuple,N z_set,N z_all,N z_any,N z_sum,N z_min,N z_max,N z_sorted,N z_isinstance,N z_dict⟩
 obtain ⟨d0,F0,a0⟩:=h0;have C0:=jr (ps:=za6) X G F0 a0 (by walk_at "b");obtain ⟨d1,F1,a1⟩:=h1;have C1:=jr (ps:=uh) X G F1 a1 (by walk_at "b");obtain ⟨d2,F2,a2⟩:=h2;have C2:=jr (ps:=zb6) X G F2 a2 (by walk_at "b");obtain ⟨d3,F3,a3⟩:=h3;have C3:=jr (ps:=jq) X G F3 a3 (by walk_at "b");obtain ⟨d4,F4,a4⟩:=h4;have C4:=jr (ps:=kj) X G F4 a4 (by walk_at "b");obtain ⟨d5,F5,a5⟩:=h5;have C5:=jr (ps:=zcd) X G F5 a5 (by walk_at "b");obtain ⟨d6,F6,a6⟩:=h6;have C6:=jr (ps:=yh) X G F6 a6 (by walk_at "b");obtain ⟨d7,F7,a7⟩:=h7;have C7:=jr (ps:=jo) X G F7 a7 (by walk_at "b");obtain ⟨d8,F8,a8⟩:=h8;have C8:=jr (ps:=zgw) X G F8 a8 (by walk_at "b");obtain ⟨d9,F9,a9⟩:=h9;have C9:=znr (ps:=j8) X G u0 F9 a9 (by walk_at "b");obtain ⟨d10,F10,a10⟩:=h10;have C10:=znr (ps:=jx) X G u1 F10 a10 (by walk_at "b");obtain ⟨d11,F11,a11⟩:=h11;have C11:=znh (ps:=zau) F11 a11 (by walk_at "b");obtain ⟨d12,F12,a12⟩:=h12;have C12:=znh (ps:=zab) F12 a12 (by walk_at "b");obtain ⟨d13,F13,a13⟩:=h13;have C13:=jr (ps:=zsa) X G F13 a13 (by walk_at "b");obtain ⟨d14,F14,a14⟩:=h14;have C14:=jr (ps:=zjg) X G F14 a14 (by walk_at "b");obtain ⟨d15,F15,a15⟩:=h15;have C15:=jr (ps:=zb1) X G F15 a15 (by walk_at "b");obtain ⟨d16,F16,a16⟩:=h16;have C16:=jr (ps:=zcc) X G F16 a16 (by walk_at "b");obtain ⟨d17,F17,a17⟩:=h17;have C17:=jr (ps:=zaa) X G F17 a17 (by walk_at "b");obtain ⟨d18,F18,a18⟩:=h18;have C18:=jr (ps:=uv) X G F18 a18 (by walk_at "b");obtain ⟨d19,F19,a19⟩:=h19;have C19:=znr (ps:=jh) X G u2 F19 a19 (by walk_at "b");obtain ⟨d20,F20,a20⟩:=h20;have C20:=znh (ps:=vo) F20 a20 (by walk_at "b");obtain ⟨d21,F21,a21⟩:=h21;have C21:=jr (ps:=zg4) X G F21 a21 (by walk_at "b");obtain ⟨d22,F22,a22⟩:=h22;have C22:=znr (ps:=vy) X G u3 F22 a22 (by walk_at "b");obtain ⟨d23,F23,a23⟩:=h23;have C23:=znh (ps:=zcl) F23 a23 (by walk_at "b");obtain ⟨d24,F24,a24⟩:=h24;have C24:=jr (ps:=zct) X G F24 a24 (by walk_at "b");obtain ⟨d25,F25,a25⟩:=h25;have C25:=jr (ps:=ze4) X G F25 a25 (by walk_at "b");obtain ⟨d26,F26,a26⟩:=h26;have C26:=jr (ps:=zav) X G F26 a26 (by walk_at "b");obtain ⟨d27,F27,a27⟩:=h27;have C27:=jr (ps:=zfe) X G F27 a27 (by walk_at "b");obtain ⟨d28,F28,a28⟩:=h28;have C28:=jr (ps:=zbi) X G F28 a28 (by walk_at "b");obtain ⟨d29,F29,a29⟩:=h29;have C29:=znr (ps:=ji) X G u4 F29 a29 (by walk_at "b");obtain ⟨d30,F30,a30⟩:=h30;have C30:=znh (ps:=vh) F30 a30 (by walk_at "b");obtain ⟨d31,F31,a31⟩:=h31;have C31:=jr (ps:=zhu) X G F31 a31 (by walk_at "b");obtain ⟨d32,F32,a32⟩:=h32;have C32:=jr (ps:=zco) X G F32 a32 (by walk_at "b");obtain ⟨d33,F33,a33⟩:=h33;have C33:=jr (ps:=zae) X G F33 a33 (by walk_at "b");obtain ⟨d34,F34,a34⟩:=h34;have C34:=jr (ps:=zb5) X G F34 a34 (by walk_at "b")
 obtain ⟨d35,F35,a35⟩:=h35;have C35:=jr (ps:=zat) X G F35 a35 (by walk_at "b");obtain ⟨d36,F36,a36⟩:=h36;have C36:=jr (ps:=zas) X G F36 a36 (by walk_at "b");obtain ⟨d37,F37,a37⟩:=h37;have C37:=znr (ps:=jy) X G u5 F37 a37 (by walk_at "b");obtain ⟨d38,F38,a38⟩:=h38;have C38:=znr (ps:=jg) X G u6 F38 a38 (by walk_at "b");obtain ⟨d39,F39,a39⟩:=h39;have C39:=znh (ps:=zaf) F39 a39 (by walk_at "b");obtain ⟨d40,F40,a40⟩:=h40;have C40:=znh (ps:=wg) F40 a40 (by walk_at "b");obtain ⟨d41,F41,a41⟩:=h41;have C41:=jr (ps:=zmy) X G F41 a41 (by walk_at "b");obtain ⟨d42,F42,a42⟩:=h42;have C42:=jr (ps:=zfi) X G F42 a42 (by walk_at "b");obtain ⟨d43,F43,a43⟩:=h43;have C43:=jr (ps:=jn) X G F43 a43 (by walk_at "b");obtain ⟨d44,F44,a44⟩:=h44;have C44:=jr (ps:=zba) X G F44 a44 (by walk_at "b");obtain ⟨d45,F45,a45⟩:=h45;have C45:=jr (ps:=zck) X G F45 a45 (by walk_at "b");obtain ⟨d46,F46,a46⟩:=h46;have C46:=jr (ps:=za0) X G F46 a46 (by walk_at "b");obtain ⟨d47,F47,a47⟩:=h47;have C47:=jr (ps:=zec) X G F47 a47 (by walk_at "b");obtain ⟨d48,F48,a48⟩:=h48;have C48:=jr (ps:=zb8) X G F48 a48 (by walk_at "b");obtain ⟨d49,F49,a49⟩:=h49;have C49:=jr (ps:=za1) X G F49 a49 (by walk_at "b");obtain ⟨d50,F50,a50⟩:=h50;have C50:=jr (ps:=zbc) X G F50 a50 (by walk_at "b");obtain ⟨d51,F51,a51⟩:=h51;have C51:=jr (ps:=jz) X G F51 a51 (by walk_at "b");obtain ⟨d52,F52,a52⟩:=h52;have C52:=jr (ps:=vp) X G F52 a52 (by walk_at "b");obtain ⟨d53,F53,a53⟩:=h53;have C53:=jr (ps:=yx) X G F53 a53 (by walk_at "b");obtain ⟨d54,F54,a54⟩:=h54;have C54:=jr (ps:=ur) X G F54 a54 (by walk_at "b");obtain ⟨d55,F55,a55⟩:=h55;have C55:=jr (ps:=wj) X G F55 a55 (by walk_at "b");obtain ⟨d56,F56,a56⟩:=h56;have C56:=jr (ps:=yt) X G F56 a56 (by walk_at "b");obtain ⟨d57,F57,a57⟩:=h57;have C57:=jr (ps:=uc) X G F57 a57 (by walk_at "b");obtain ⟨d58,F58,a58⟩:=h58;have C58:=jr (ps:=zaj) X G F58 a58 (by walk_at "b");have FL:=zxt (st:=zqk) lL cL hL;refine ⟨PySem.W.fnOf "law" "law" (zfs zqk) (zew zqk) (zq zqk) .none kV dc pm an cd ct,fun s v=>.of_eq rfl,fun base _ _=>?_⟩;have G0:=ztv (P:=l.prog) (w:=w) (base:=base) F0 T;have G1:=ztk (P:=l.prog) (w:=w) (base:=base) F1 T C0 (G0.mono (by decide));have G2:=zyb (P:=l.prog) (w:=w) (base:=base) F2 T C0 (G0.mono (by decide));have G3:=zok (P:=l.prog) (w:=w) (base:=base) F3 T C2 (G2.mono (by decide));have G4:=zqr (P:=l.prog) (w:=w) (base:=base) F4 T C2 (G2.mono (by decide));have G5:=ztz (P:=l.prog) (w:=w) (base:=base) F5 T;have G6:=zss (P:=l.prog) (w:=w) (base:=base) F6 T C4 (G4.mono (by decide)) C5 (G5.mono (by decide));have G7:=zkw (P:=l.prog) (w:=w) (base:=base) F7 T;have G8:=zvx (P:=l.prog) (w:=w) (base:=base) F8 T C7 (G7.mono (by decide));have G9:=zmk (P:=l.prog) (w:=w) (base:=base) F9 T u0.i n0_places
 have G10:=zk1 (P:=l.prog) (w:=w) (base:=base) F10 T u1.i n1_places;have G11:=zqd (P:=l.prog) (w:=w) (base:=base) F11 T u0.i n0_places C6 (G6.mono (by decide));have G12:=zox (P:=l.prog) (w:=w) (base:=base) F12 T u1.i n1_places C6 (G6.mono (by decide)) C7 (G7.mono (by decide));have G13:=z3s (P:=l.prog) (w:=w) (base:=base) F13 T C3 (G3.mono (by decide)) C7 (G7.mono (by decide)) C9 (G9.mono (by decide)) C10 (G10.mono (by decide));have G14:=z0g (P:=l.prog) (w:=w) (base:=base) F14 T;have G15:=zoh (P:=l.prog) (w:=w) (base:=base) F15 T C2 (G2.mono (by decide));have G16:=zti (P:=l.prog) (w:=w) (base:=base) F16 T C15 (G15.mono (by decide)) C14 (G14.mono (by decide));have G17:=zon (P:=l.prog) (w:=w) (base:=base) F17 T C14 (G14.mono (by decide));have G18:=zoi (P:=l.prog) (w:=w) (base:=base) F18 T;have G19:=zjq (P:=l.prog) (w:=w) (base:=base) F19 T u2.i n2_mine n2_theirs n2_table;have G20:=zmc (P:=l.prog) (w:=w) (base:=base) F20 T u2.i n2_mine n2_theirs n2_table C4 (G4.mono (by decide)) C5 (G5.mono (by decide)) C6 (G6.mono (by decide)) C16 (G16.mono (by decide));have G21:=zvp (P:=l.prog) (w:=w) (base:=base) F21 T C3 (G3.mono (by decide)) C17 (G17.mono (by decide)) C18 (G18.mono (by decide)) C19 (G19.mono (by decide));have G22:=zmf (P:=l.prog) (w:=w) (base:=base) F22 T u3.i n3_row n3_mine n3_theirs n3_table;have G23:=zqb (P:=l.prog) (w:=w) (base:=base) F23 T u3.i n3_row n3_mine n3_theirs n3_table C2 (G2.mono (by decide)) C6 (G6.mono (by decide)) C16 (G16.mono (by decide));have G24:=zrd (P:=l.prog) (w:=w) (base:=base) F24 T;have G25:=ztc (P:=l.prog) (w:=w) (base:=base) F25 T C3 (G3.mono (by decide)) C17 (G17.mono (by decide)) C18 (G18.mono (by decide)) C24 (G24.mono (by decide)) C22 (G22.mono (by decide));have G26:=zmj (P:=l.prog) (w:=w) (base:=base) F26 T C1 (G1.mono (by decide));have G27:=zt8 (P:=l.prog) (w:=w) (base:=base) F27 T C4 (G4.mono (by decide)) C26 (G26.mono (by decide));have G28:=zm3 (P:=l.prog) (w:=w) (base:=base) F28 T;have G29:=zjd (P:=l.prog) (w:=w) (base:=base) F29 T u4.i n4_cuts n4_word;have G30:=zmd (P:=l.prog) (w:=w) (base:=base) F30 T u4.i n4_cuts n4_word C1 (G1.mono (by decide)) C27 (G27.mono (by decide)) C8 (G8.mono (by decide));have G31:=zwh (P:=l.prog) (w:=w) (base:=base) F31 T C3 (G3.mono (by decide)) C0 (G0.mono (by decide)) C1 (G1.mono (by decide)) C28 (G28.mono (by decide)) C29 (G29.mono (by decide));have G32:=zqx (P:=l.prog) (w:=w) (base:=base) F32 T C1 (G1.mono (by decide));have G33:=zof (P:=l.prog) (w:=w) (base:=base) F33 T;have G34:=zoq (P:=l.prog) (w:=w) (base:=base) F34 T C33 (G33.mono (by decide));have G35:=zml (P:=l.prog) (w:=w) (base:=base) F35 T C33 (G33.mono (by decide));have G36:=zmg (P:=l.prog) (w:=w) (base:=base) F36 T;have G37:=zll (P:=l.prog) (w:=w) (base:=base) F37 T u5.i n5_places
 have G38:=zju (P:=l.prog) (w:=w) (base:=base) F38 T u6.i n6_pairs;have G39:=zot (P:=l.prog) (w:=w) (base:=base) F39 T u5.i n5_places C6 (G6.mono (by decide));have G40:=zmb (P:=l.prog) (w:=w) (base:=base) F40 T u6.i n6_pairs C32 (G32.mono (by decide)) C34 (G34.mono (by decide));have G41:=z0c (P:=l.prog) (w:=w) (base:=base) F41 T C3 (G3.mono (by decide)) C35 (G35.mono (by decide)) C36 (G36.mono (by decide)) C37 (G37.mono (by decide)) C38 (G38.mono (by decide));have G42:=zte (P:=l.prog) (w:=w) (base:=base) F42 T;have G43:=zov (P:=l.prog) (w:=w) (base:=base) F43 T;have G44:=zod (P:=l.prog) (w:=w) (base:=base) F44 T;have G45:=zqp (P:=l.prog) (w:=w) (base:=base) F45 T C43 (G43.mono (by decide));have G46:=zqa (P:=l.prog) (w:=w) (base:=base) F46 T;have G47:=zrs (P:=l.prog) (w:=w) (base:=base) F47 T C46 (G46.mono (by decide)) C43 (G43.mono (by decide));have G48:=zou (P:=l.prog) (w:=w) (base:=base) F48 T C44 (G44.mono (by decide));have G49:=zme (P:=l.prog) (w:=w) (base:=base) F49 T C43 (G43.mono (by decide));have G50:=zni (P:=l.prog) (w:=w) (base:=base) F50 T;have G51:=zsr (P:=l.prog) (w:=w) (base:=base) F51 T;have G52:=zs0 (P:=l.prog) (w:=w) (base:=base) F52 T;have G53:=zic (P:=l.prog) (w:=w) (base:=base) F53 T C13 (G13.mono (by decide)) C52 (G52.mono (by decide)) C51 (G51.mono (by decide)) C43 (G43.mono (by decide)) C45 (G45.mono (by decide)) C11 (G11.mono (by decide)) C12 (G12.mono (by decide)) C9 (G9.mono (by decide)) C10 (G10.mono (by decide)) u0.i u1.i n0_places n1_places;have G54:=zkr (P:=l.prog) (w:=w) (base:=base) F54 T C51 (G51.mono (by decide)) C43 (G43.mono (by decide)) C46 (G46.mono (by decide)) C23 (G23.mono (by decide)) C22 (G22.mono (by decide)) u3.i n3_row n3_mine n3_theirs n3_table;have G55:=zid (P:=l.prog) (w:=w) (base:=base) F55 T C21 (G21.mono (by decide)) C25 (G25.mono (by decide)) C52 (G52.mono (by decide)) C51 (G51.mono (by decide)) C47 (G47.mono (by decide)) C54 (G54.mono (by decide)) C20 (G20.mono (by decide)) C19 (G19.mono (by decide)) u2.i n2_mine n2_theirs n2_table;have G56:=zhx (P:=l.prog) (w:=w) (base:=base) F56 T C31 (G31.mono (by decide)) C52 (G52.mono (by decide)) C51 (G51.mono (by decide)) C48 (G48.mono (by decide)) C30 (G30.mono (by decide)) C29 (G29.mono (by decide)) u4.i n4_cuts n4_word;have G57:=zjf (P:=l.prog) (w:=w) (base:=base) F57 T C41 (G41.mono (by decide)) C52 (G52.mono (by decide)) C51 (G51.mono (by decide)) C50 (G50.mono (by decide)) C49 (G49.mono (by decide)) C39 (G39.mono (by decide)) C40 (G40.mono (by decide)) C37 (G37.mono (by decide)) C38 (G38.mono (by decide)) (PySem.W.mg_of X G u5.a) (PySem.W.mg_of X G u6.a) u5.i u6.i n5_places n6_pairs i5_5 i5_6 i6_5 i6_6;have G58:=zlo (P:=l.prog) (w:=w) (base:=base) F58 T C51 (G51.mono (by decide)) C11 (G11.mono (by decide)) C9 (G9.mono (by decide)) C12 (G12.mono (by decide)) C10 (G10.mono (by decide)) C20 (G20.mono (by decide)) C19 (G19.mono (by decide)) C30 (G30.mono (by decide)) C29 (G29.mono (by decide)) C39 (G39.mono (by decide)) C37 (G37.mono (by decide)) C40 (G40.mono (by decide)) C38 (G38.mono (by decide)) u0.i u1.i u2.i u4.i u5.i u6.i
 exact z54 (P:=l.prog) (w:=w) (base:=base) FL T C42 (G42.mono (by decide)) C58 (G58.mono (by decide)) C53 (G53.mono (by decide)) C55 (G55.mono (by decide)) C56 (G56.mono (by decide)) C57 (G57.mono (by decide))
theorem walk {l:PySem.W.OpenLaw}{q:Program}{loose:List Str}{XP:(Str->Option Value)->Heap->Prop}{YP:World->Heap->Prop}{d:DefRec}{K:Params->PySem.W.Frag} (hn:l.most=some 63) (hdf:d.params.defaults=[])
  (hY:∀ (w:World) (h:Heap),YP w h->(K w.params).In h)
  (F:∀ (w:World) (mg:Str->Option Value) (fa:Addr) (h:Heap),(K w.params).In h->h.Ns mainGlobals mg->mg d.name=some (.ref fa) ->
   ∃ fd:FuncData,(∀ (s:Shared) (u:Value),BindsTo s fd ⟨[u],[]⟩ [(ztj.headD "",u)])/\∀ base:Heap,(K w.params).In base->base.Ns mainGlobals mg->qm l.prog w (K w.params) mg base CX0 11 fa fd ztj (zsl (K w.params))) :
  PySem.W.WalkO q loose XP YP l.row.toRowW d [] (fun f vs=>PySem.call f vs) :=
 L2.zw0 (n:=63) (k:=11) (x:=ztj.headD "") (CX:=fun _=>CX0) (sp:=fun w=>zsl (K w.params)) hn (by decide) hdf ⟨rfl,by decide,by decide⟩ hY F (fun _ _ a ns hl _ hS=>⟨a,ns,rfl,hS,hl,fun _=>rfl⟩) fun _ _ _ _ _ z=>z
end My
open PySem PySem.W PyProof.Rows
local macro_rules|`(tactic| walk_at "j")=>`(tactic| (refine' My.z7k ?a ?l ?c ?k;(case a=>k_is);(case l=>k_is);(case c=>k_is);(case k=>k_is)))
local macro_rules|`(tactic| walk_at "m")=>`(tactic| (refine' My.z8q ?a ?l ?c ?k ?i;(case a=>k_is);(case l=>k_is);(case c=>k_is);(case k=>k_is);(case i=>k_is)))
local macro_rules|`(tactic| walk_at "k")=>`(tactic| (refine' My.z8w ?a ?m ?k ?pg ?hd ?po ?sa ?u ?sn ?ht ?v;(case a=>k_is);(case m=>k_is);(case k=>k_is);(case pg=>k_is);(case hd=>k_is);(case po=>k_is);(case sa=>k_is);(case u=>k_is);(case sn=>k_is);(case ht=>k_is);(case v=>k_is)))
namespace PySem.W.Fast
theorem tw10006240320930005121:True:=⟨⟩
theorem tw16972541180469478193:True:=⟨⟩
theorem tw1153500311468231892:True:=⟨⟩
theorem tw14810370879113009090:True:=⟨⟩
theorem tw8102102292515790544:True:=⟨⟩
theorem tw8935136071391343307:True:=⟨⟩
theorem tw12424094648634175703:True:=⟨⟩
theorem tw10375869191325423446:True:=⟨⟩
theorem tw14801757471597586084:True:=⟨⟩
theorem tw8062893294192178113:True:=⟨⟩
theorem tw6753911572395272280:True:=⟨⟩
theorem tw17758470764721900384:True:=⟨⟩
theorem tw9462562443280700919:True:=⟨⟩
theorem tw13789471395126909070:True:=⟨⟩
theorem tw1055138592891069041:True:=⟨⟩
theorem tw7493864080059959718:True:=⟨⟩
theorem tw3811323010777555305:True:=⟨⟩
theorem tw1942311986705996216:True:=⟨⟩
theorem tw12567508110169910068:True:=⟨⟩
theorem tw12362277536354895961:True:=⟨⟩
theorem tw15713810674597860928:True:=⟨⟩
theorem tw10837349944085185884:True:=⟨⟩
theorem tw8296503032136348826:True:=⟨⟩
theorem tw17898065348195955722:True:=⟨⟩
theorem tw12768826200728748459:True:=⟨⟩
theorem tw4658437855377932741:True:=⟨⟩
theorem tw11034083849549583338:True:=⟨⟩
theorem tw1970628865846004189:True:=⟨⟩
theorem tw11317609608633498250:True:=⟨⟩
theorem tw13895481664781501997:True:=⟨⟩
theorem tw4721677080929249271:True:=⟨⟩
theorem tw11945571944343601598:True:=⟨⟩
theorem tw2602514932073316944:True:=⟨⟩
theorem tw10277288397292797133:True:=⟨⟩
theorem tw12954024660516196783:True:=⟨⟩
theorem tw2328826956771085210:True:=⟨⟩
theorem tw17936792247607432034:True:=⟨⟩
theorem tw11751044013971458218:True:=⟨⟩
theorem tw773349512646559855:True:=⟨⟩
theorem tw2394399403771461353:True:=⟨⟩
theorem tw10786078195483586261:True:=⟨⟩
theorem tw10919612702359932039:True:=⟨⟩
theorem tw8220255822264610219:True:=⟨⟩
theorem tw10930398182916954197:True:=⟨⟩
theorem tw11464718186180156649:True:=⟨⟩
theorem tw11023671378489425093:True:=⟨⟩
theorem tw5474086501812735546:True:=⟨⟩
theorem tw3079295033680100004:True:=⟨⟩
theorem tw11145208496062686515:True:=⟨⟩
theorem tw15523915324285784956:True:=⟨⟩
theorem tw7721488128001342994:True:=⟨⟩
theorem tw15796406530959254961:True:=⟨⟩
theorem tw11328280446720268710:True:=⟨⟩
theorem tw12945066542860484833:True:=⟨⟩
theorem tw7072776514129985210:True:=⟨⟩
theorem tw2287932623410443485:True:=⟨⟩
theorem tw15952189821288921113:True:=⟨⟩
theorem tw8162376069245026239:True:=⟨⟩
theorem tw6919275833117160260:True:=⟨⟩
theorem tw7393212698041794291:True:=⟨⟩
theorem tw17305844842830483758:True:=⟨⟩
theorem tw10650034296456301779:True:=⟨⟩
theorem tw9238355743724420668:True:=⟨⟩
theorem tw17516856326668599909:True:=⟨⟩
theorem tw14664864371709942079:True:=⟨⟩
theorem tw1843045565412181768:True:=⟨⟩
theorem tw12165194848145502545:True:=⟨⟩
theorem tw17235240502773410322:True:=⟨⟩
theorem tw15919361093943026353:True:=⟨⟩
theorem tw10454178273355513431:True:=⟨⟩
theorem tw4565967415630758454:True:=⟨⟩
theorem tw7380760535755421328:True:=⟨⟩
theorem tw2780837635540097356:True:=⟨⟩
theorem tw13484392739337072866:True:=⟨⟩
theorem tw13781320149863231689:True:=⟨⟩
theorem tw6579034921358628542:True:=⟨⟩
theorem tw9679641849573169159:True:=⟨⟩
theorem tw5208893378385104825:True:=⟨⟩
theorem tw8523739060390018432:True:=⟨⟩
theorem tw1186084760567747514:True:=⟨⟩
theorem tw9367498147530411164:True:=⟨⟩
theorem tw2121836214532804864:True:=⟨⟩
theorem tw98253985964058051:True:=⟨⟩
theorem tw489460214432843306:True:=⟨⟩
theorem tw8470276119956959168:True:=⟨⟩
theorem tw13295703111831392693:True:=⟨⟩
theorem tw16142038710725838886:True:=⟨⟩
theorem tw5407120485642609677:True:=⟨⟩
theorem tw13106549882380310044:True:=⟨⟩
theorem tw8978175530831585216:True:=⟨⟩
theorem tw1490379606055120571:True:=⟨⟩
theorem tw11889706005313641688:True:=⟨⟩
theorem tw1754577346424491265:True:=⟨⟩
theorem tw3582624102613287606:True:=⟨⟩
theorem tw468236453128754839:True:=⟨⟩
theorem tw2019234637034675561:True:=⟨⟩
theorem tw1623192561035159147:True:=⟨⟩
theorem tw18215949627476184409:True:=⟨⟩
theorem tw2200542429130206210:True:=⟨⟩
theorem tw6746499479164187744:True:=⟨⟩
theorem tw9916560016668667120:True:=⟨⟩
theorem tw14442456898426958179:True:=⟨⟩
theorem tw13128535015272593904:True:=⟨⟩
theorem tw6076554418127564773:True:=⟨⟩
theorem tw14566626182117372345:True:=⟨⟩
theorem tw8865284878506513988:True:=⟨⟩
theorem tw18000563367460783893:True:=⟨⟩
theorem tw17433222176721334437:True:=⟨⟩
theorem tw8302859506185071135:True:=⟨⟩
theorem tw4468361134295355103:True:=⟨⟩
theorem tw6299889777992170883:True:=⟨⟩
theorem tw8729471858552840359:True:=⟨⟩
theorem tw2631580659055087233:True:=⟨⟩
theorem tw5780374918506117093:True:=⟨⟩
theorem tw16274618213316971189:True:=⟨⟩
theorem tw7481323662151376158:True:=⟨⟩
theorem tw5824878041125663178:True:=⟨⟩
theorem tw18392559994559243424:True:=⟨⟩
theorem tw15213271658446935096:True:=⟨⟩
theorem tw12817525802471298474:True:=⟨⟩
theorem tw11980474963042685022:True:=⟨⟩
theorem tw13729216766872988844:True:=⟨⟩
theorem tw4510387120396225006:True:=⟨⟩
theorem tw7485345556685714027:True:=⟨⟩
theorem tw6185386955659760607:True:=⟨⟩
theorem tw8543563326437460152:True:=⟨⟩
theorem tw3005796721308386606:True:=⟨⟩
theorem tw16984972044741516438:True:=⟨⟩
theorem tw15148830484648711228:True:=⟨⟩
theorem tw6798315330489375319:True:=⟨⟩
theorem tw7920584435307710465:True:=⟨⟩
theorem tw1888518607320613151:True:=⟨⟩
theorem tw14167136470720411195:True:=⟨⟩
theorem tw13503239888658897784:True:=⟨⟩
end PySem.W.Fast
set_option maxRecDepth 100000 in
set_option maxHeartbeats 0 in
theorem PySem.Challenge.cw_leftin_k07_answers_by_hand_holds : PySem.Challenge.rw_leftin_k07_answers_by_hand.Holds := by
 w_on;o_law;k_head;(case hw=>w_witness2)
 k_fill
 refine My.walk (l:=PySem.Challenge.rw_leftin_k07_answers_by_hand) rfl rfl (fun w h Y=>PySem.W.kIn_of Y) ?F;case F =>
  intro w mg fa h KX G hmg;refine' My.all_mk KX G hmg ?u0 ?u1 ?u2 ?u3 ?u4 ?u5 ?u6 ?n0_places ?n1_places ?n2_mine ?n2_theirs ?n2_table ?n3_row ?n3_mine ?n3_theirs ?n3_table ?n4_cuts ?n4_word ?n5_places ?i5_5 ?i5_6 ?n6_pairs ?i6_5 ?i6_6 ?h0 ?h1 ?h2 ?h3 ?h4 ?h5 ?h6 ?h7 ?h8 ?h9 ?h10 ?h11 ?h12 ?h13 ?h14 ?h15 ?h16 ?h17 ?h18 ?h19 ?h20 ?h21 ?h22 ?h23 ?h24 ?h25 ?h26 ?h27 ?h28 ?h29 ?h30 ?h31 ?h32 ?h33 ?h34 ?h35 ?h36 ?h37 ?h38 ?h39 ?h40 ?h41 ?h42 ?h43 ?h44 ?h45 ?h46 ?h47 ?h48 ?h49 ?h50 ?h51 ?h52 ?h53 ?h54 ?h55 ?h56 ?h57 ?h58 ?aL ?lL ?cL ?hL ?z_len ?z_zip ?z_enumerate ?z_range ?z_list ?z_int ?z_bool ?z_tuple ?z_set ?z_all ?z_any ?z_sum ?z_min ?z_max ?z_sorted ?z_isinstance ?z_dict
  (case u0=>walk_at "k")
  (case u1=>walk_at "k")
  (case u2=>walk_at "k")
  (case u3=>walk_at "k")
  (case u4=>walk_at "k")
  (case u5=>walk_at "k")
  (case u6=>walk_at "k")
  (case n0_places=>k_is)
  (case n1_places=>k_is)
  (case n2_mine=>k_is)
  (case n2_theirs=>k_is)
  (case n2_table=>k_is)
  (case n3_row=>k_is)
  (case n3_mine=>k_is)
  (case n3_theirs=>k_is)
  (case n3_table=>k_is)
  (case n4_cuts=>k_is)
  (case n4_word=>k_is)
  (case n5_places=>k_is)
  (case i5_5=>kit_is)
  (case i5_6=>kit_is)
  (case n6_pairs=>k_is)
  (case i6_5=>kit_is)
  (case i6_6=>kit_is)
  (case h0=>walk_at "j")
  (case h1=>walk_at "j")
  (case h2=>walk_at "j")
  (case h3=>walk_at "j")
  (case h4=>walk_at "j")
  (case h5=>walk_at "j")
  (case h6=>walk_at "j")
  (case h7=>walk_at "j")
  (case h8=>walk_at "j")
  (case h9=>walk_at "m")
  (case h10=>walk_at "m")
  (case h11=>walk_at "m")
  (case h12=>walk_at "m")
  (case h13=>walk_at "j")
  (case h14=>walk_at "j")
  (case h15=>walk_at "j")
  (case h16=>walk_at "j")
  (case h17=>walk_at "j")
  (case h18=>walk_at "j")
  (case h19=>walk_at "m")
  (case h20=>walk_at "m")
  (case h21=>walk_at "j")
  (case h22=>walk_at "m")
  (case h23=>walk_at "m")
  (case h24=>walk_at "j")
  (case h25=>walk_at "j")
  (case h26=>walk_at "j")
  (case h27=>walk_at "j")
  (case h28=>walk_at "j")
  (case h29=>walk_at "m")
  (case h30=>walk_at "m")
  (case h31=>walk_at "j")
  (case h32=>walk_at "j")
  (case h33=>walk_at "j")
  (case h34=>walk_at "j")
  (case h35=>walk_at "j")
  (case h36=>walk_at "j")
  (case h37=>walk_at "m")
  (case h38=>walk_at "m")
  (case h39=>walk_at "m")
  (case h40=>walk_at "m")
  (case h41=>walk_at "j")
  (case h42=>walk_at "j")
  (case h43=>walk_at "j")
  (case h44=>walk_at "j")
  (case h45=>walk_at "j")
  (case h46=>walk_at "j")
  (case h47=>walk_at "j")
  (case h48=>walk_at "j")
  (case h49=>walk_at "j")
  (case h50=>walk_at "j")
  (case h51=>walk_at "j")
  (case h52=>walk_at "j")
  (case h53=>walk_at "j")
  (case h54=>walk_at "j")
  (case h55=>walk_at "j")
  (case h56=>walk_at "j")
  (case h57=>walk_at "j")
  (case h58=>walk_at "j")
  (case aL=>k_is)
  (case lL=>k_is)
  (case cL=>k_is)
  (case hL=>k_is)
  (case z_len=>k_is)
  (case z_zip=>k_is)
  (case z_enumerate=>k_is)
  (case z_range=>k_is)
  (case z_list=>k_is)
  (case z_int=>k_is)
  (case z_bool=>k_is)
  (case z_tuple=>k_is)
  (case z_set=>k_is)
  (case z_all=>k_is)
  (case z_any=>k_is)
  (case z_sum=>k_is)
  (case z_min=>k_is)
  (case z_max=>k_is)
  (case z_sorted=>k_is)
  (case z_isinstance=>k_is)
  (case z_dict=>k_is)
